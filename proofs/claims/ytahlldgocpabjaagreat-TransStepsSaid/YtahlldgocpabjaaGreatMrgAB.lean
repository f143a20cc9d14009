import Derived.Test.YtahlldgocpabjaaGreatMrgAA
import Derived.Test.YtahlldgocpabjaaGreatMrgW
import Derived.Test.YtahlldgocpabjaaGreatMrgY
set_option maxRecDepth 100000
set_option maxHeartbeats 8000000
set_option linter.unusedVariables false
set_option maxRecDepth 100000
namespace Go.Proofs.YtahlldgocpabjaaGreat
open Go.RowKit Copyhold
attribute [local go_sem] Qyt
theorem Qzu (l:List UInt8) (n j:Nat) (h:n≤l.length+j):(l++List.replicate j 0).take n=Qfj l n:=by
 unfold Qfj;rw [List.take_append,List.take_replicate,show min (n-l.length) j=n-l.length from by omega]
theorem Qrq (s:List UInt8) (n:Nat) (w:World) (hs:s.length≤1048576) (hn:n≤4096) :
  Calls Tryz.prog 117 #[.string ⟨s.toArray⟩,.int .i64 n] w fun e w'=>e=.returned (.tuple #[.string ⟨(Qfj s n).toArray⟩,.int .i64 0])∧Below w.heap.size w w':=by
 have h0:(0:Int)≤(n:Int):=by omega
 go_enter Tryz.func117,Tryz.ntmps117
 go_wp2_with fail
 go_loopw [0] (fun so wr=>∃ (l:List UInt8) (j:Nat),so=.string ⟨l.toArray⟩∧l=s++List.replicate j 0∧l.length≤2097152∧Below w.heap.size w wr∧(j=0∨s.length+j≤n)) (fun so _=>n-(match so with | .string b=>b.size | _=>0))
 case atStart=>exact ⟨s,0,rfl,by simp,by omega,Below.refl _ _,.inl rfl⟩
 case round=>
  obtain ⟨l,j,rfl,hl,hll,hb,hj⟩:=hrel;have HL:=Lib.hid hl;have hlen:l.length=s.length+j:=by rw [hl];simp
  have HLEN:=Lib.hid hlen;clear hl hlen;by_cases hlt:l.length<n
  ·have hnext:l++[0]=s++List.replicate (j+1) 0:=by rw [HL.out,List.append_assoc,List.replicate_succ']
   have HN:=Lib.hid hnext;clear hnext
   go_wp2_with fail
   go_roundw
   case rel=>exact ⟨l++[0],j+1,rfl,HN.out,by rw [List.length_append];simp;omega,hb,.inr (by have:=HLEN.out;omega)⟩
   case measure=>simp [ByteArray.size];omega
  ·have hfin:l.take n=Qfj s n:=by rw [HL.out];exact Qzu s n j (by have:=HLEN.out;omega)
   have HF:=Lib.hid hfin;have hle:(n:Int)≤(l.length:Int):=by omega
   clear hfin
   go_wp2_with fail
   go_ret2
   exact ⟨by rw [← HF.out];rfl,hb⟩
theorem Zba (s:List UInt8) (n:Int) (w:World) (hs:s.length≤1048576) (h1:-9223372036854775808≤n) (h2:n≤9223372036854775807) :
  Calls Tryz.prog 117 #[.string ⟨s.toArray⟩,.int .i64 n] w fun e w'=>e=.returned (.tuple #[.string ⟨(cutD s n).1.toArray⟩,.int .i64 (cutD s n).2])∧Below w.heap.size w w':=by
 rcases (show n<0∨0≤n∧1099511627776<n∨0≤n∧n≤1099511627776∧4096<n∨0≤n∧n≤4096 from by omega) with h | ⟨h,h'⟩ | ⟨h,h',h''⟩ | ⟨h,h'⟩
 ·have hr:Qba 0 n=1:=by unfold Qba;rw [if_neg (by omega)]
  have hc:cutD s n=(s,1):=by unfold cutD;rw [hr];rfl
  rw [hc];clear hr hc
  go_enter Tryz.func117,Tryz.ntmps117
  go_wp2_with fail
  go_ret2
  exact ⟨rfl,Below.refl _ _⟩
 ·have hr:Qba 0 n=1:=by unfold Qba;rw [if_neg (by omega)]
  have hc:cutD s n=(s,1):=by unfold cutD;rw [hr];rfl
  rw [hc];clear hr hc
  go_enter Tryz.func117,Tryz.ntmps117
  go_wp2_with fail
  go_ret2
  exact ⟨rfl,Below.refl _ _⟩
 ·have hr:Qba 0 n=5:=by unfold Qba;rw [if_pos (by omega),if_pos (by omega)]
  have hc:cutD s n=(s,5):=by unfold cutD;rw [hr];rfl
  rw [hc];clear hr hc
  go_enter Tryz.func117,Tryz.ntmps117
  go_wp2_with fail
  go_ret2
  exact ⟨rfl,Below.refl _ _⟩
 ·obtain ⟨n,rfl⟩:=Int.eq_ofNat_of_zero_le h;have hr:Qba 0 (n:Int)=0:=by unfold Qba;rw [if_pos (by omega),if_neg (by omega)]
  have hc:cutD s n=(Qfj s n,0):=by unfold cutD;rw [if_pos hr,Int.toNat_natCast]
  rw [hc];exact Qrq s n w hs (by omega)
end Go.Proofs.YtahlldgocpabjaaGreat

set_option maxRecDepth 100000
namespace Go.Proofs.YtahlldgocpabjaaGreat
open Go.RowKit Copyhold
attribute [local go_sem] Qyt
def Qgs (L:List UInt8) (a:Nat) (t:List UInt8) (i:Nat):List UInt8:=L.take a++t.take i++L.drop (a+i)
theorem Qmg (L:List UInt8) (a:Nat) (t:List UInt8) (i:Nat) (ha:a≤L.length) (hi:i≤t.length):(Qgs L a t i).length=max L.length (a+i):=by
 unfold Qgs;simp;omega
theorem Zbo (L:List UInt8) (a:Nat) (t:List UInt8) (i:Nat) (ha:a≤L.length) (hi:i<t.length) (h:a+i<(Qgs L a t i).length):(Qgs L a t i).set (a+i) t[i]=Qgs L a t (i+1):=by
 rw [Qmg L a t i ha (by omega)] at h;have hA:(L.take a++t.take i).length=a+i:=by simp;omega
 unfold Qgs;rw [List.set_append_right _ _ (by omega),hA,Nat.sub_self,List.drop_eq_getElem_cons (by omega),List.set_cons_zero,List.take_succ_eq_append_getElem hi,Nat.add_assoc,List.append_assoc,List.append_assoc,List.append_assoc,List.singleton_append]
theorem Zbq (L:List UInt8) (a:Nat) (t:List UInt8) (i:Nat) (ha:a≤L.length) (hi:i<t.length) (h:¬ a+i<(Qgs L a t i).length):Qgs L a t i++[t[i]]=Qgs L a t (i+1):=by
 rw [Qmg L a t i ha (by omega)] at h;unfold Qgs;rw [List.drop_eq_nil_of_le (by omega),List.drop_eq_nil_of_le (by omega),List.take_succ_eq_append_getElem hi];simp
theorem Zbp (s:List UInt8) (a j:Nat) (t:List UInt8) (h:a≤s.length+j) (h':j=0∨s.length+j≤a):Qgs (s++List.replicate j 0) a t t.length=putD s a t:=by
 have hL:∀ i,(s++List.replicate j (0:UInt8))[i]?=if i<s.length+j then some (s.getD i 0) else none:=by
  intro i;rw [List.getElem?_append];by_cases h1:i<s.length
  ·rw [if_pos h1,if_pos (by omega)];simp [List.getD,h1]
  ·rw [if_neg h1,List.getElem?_replicate];by_cases h2:i<s.length+j
   ·rw [if_pos (by omega),if_pos h2];simp [List.getD,h1]
   ·rw [if_neg (by omega),if_neg h2]
 apply List.ext_getElem?;intro i;rw [dataSplit.get_putD];unfold Qgs;rw [List.append_assoc,List.getElem?_append,List.length_take,List.length_append,List.length_replicate,show min a (s.length+j)=a from by omega];by_cases hi:i<a
 ·rw [if_pos hi,List.getElem?_take,if_pos hi,hL,if_pos (by omega),if_pos (by omega),if_neg (by omega)]
 ·rw [if_neg hi,List.getElem?_append,List.length_take,Nat.min_self];by_cases h2:i-a<t.length
  ·rw [if_pos h2,if_pos (by omega),if_pos (by omega),List.take_length];simp [List.getD,h2]
  ·rw [if_neg h2,List.getElem?_drop,show a+t.length+(i-a-t.length)=i from by omega,hL];by_cases h3:i<s.length+j
   ·rw [if_pos h3,if_pos (by omega),if_neg (by omega)]
   ·rw [if_neg h3,if_neg (by omega)]
theorem Qnw (s:List UInt8) (a:Nat) (t:List UInt8) (w:World) (hs:s.length≤524288) (ht:t ≠ []) (h:a+t.length≤4096) :
  Calls Tryz.prog 118 #[.string ⟨s.toArray⟩,.int .i64 a,.string ⟨t.toArray⟩] w fun e w'=>e=.returned (.tuple #[.string ⟨(putD s a t).toArray⟩,.int .i64 0])∧Below w.heap.size w w':=by
 have hte:t.isEmpty=false:=by simpa using ht
 have htl:0<t.length:=List.length_pos_iff.2 ht;have hcv:=Lib.run_convert_string_bytes (P:=Tryz.prog) w 9 198 5 ⟨s.toArray⟩ Tryz.underlying9 Tryz.underlying198 Tryz.underlying5;have hsz:(⟨s.toArray⟩:ByteArray).size=s.length:=by simp [ByteArray.size]
 rw [hsz] at hcv;have HO:=Lib.hid (Brow.made w s (by omega));have HB:=Lib.hid (Qvl w 5 ⟨s.toArray⟩);generalize Lib.bytesWorld w 5 ⟨s.toArray⟩=W0 at *;generalize grownCap w s.length 0 5=cap at *;clear ht hsz
 go_enter Tryz.func118,Tryz.ntmps118
 go_wp2_with fail
 go_loopw [8] (fun sb wr=>∃ (l:List UInt8) (j c:Nat) (A:Option Addr),sb=.slice A l.length c∧l=s++List.replicate j 0∧(j=0∨s.length+j≤a)∧Brow wr w.heap.size sb l∧Below w.heap.size w wr) (fun sb _=>a-(match sb with | .slice _ n _=>n | _=>0))
 case atStart=>exact ⟨s,0,cap,some ⟨w.heap.size,0,none⟩,rfl,by simp,.inl rfl,HO.out,HB.out⟩
 case round=>
  obtain ⟨l,j,c,A,rfl,hl,hj,hown,hb⟩:=hrel;have hlen:l.length=s.length+j:=by rw [hl];simp
  have hll:l.length≤1048576:=by omega
  have HL:=Lib.hid hl;have HLEN:=Lib.hid hlen;have HOWN:=Lib.hid hown;clear hl hlen hown;by_cases hlt:l.length<a
  ·obtain ⟨v',w',hrun,hown',hb'⟩:=HOWN.out.append 0 hll hb.size;have hnext:l++[0]=s++List.replicate (j+1) 0:=by rw [HL.out,List.append_assoc,List.replicate_succ']
   obtain ⟨A',c',rfl⟩:=hown'.shape;rw [List.length_append,List.length_singleton] at hrun hown';have HN:=Lib.hid hnext;have HO':=Lib.hid hown';have HB':=Lib.hid (hb.trans hb');clear hnext hown' hb';have hrun:Sem.run Tryz.prog (Builtin.append_ #[198,198] 198 #[.slice A l.length c,.slice (some ⟨wr.heap.size,0,none⟩) 1 1]) (wr.alloc (.cells #[.int .u8 0] 5))=.ok (.slice A' (l.length+1) c') w':=hrun
   go_wp2_with (at_builtin;refine Qds rfl _ _ _ rfl _ _ _ _ rfl rfl hrun ?_)
   go_roundw
   case rel=>exact ⟨l++[0],j+1,c',A',by rw [List.length_append];rfl,HN.out,.inr (by have:=HLEN.out;omega),HO'.out,HB'.out⟩
   case measure=>simp;omega
  ·have hal:a≤l.length:=by omega
   have hend:Qgs l a t t.length=putD s a t:=by rw [HL.out];exact Zbp s a j t (by have:=HLEN.out;omega) hj
   have HEND:=Lib.hid hend;clear hend
   go_wp2_with fail
   go_loopw [8,9] (fun sb si wr=>∃ (i c:Nat) (L:List UInt8) (A:Option Addr),si=.int .i64 i∧sb=.slice A L.length c∧L=Qgs l a t i∧i≤t.length∧Brow wr w.heap.size sb L∧Below w.heap.size w wr) (fun _ si _=>t.length-(intOf si).toNat)
   case atStart=>exact ⟨0,c,l,A,rfl,rfl,by simp [Qgs],Nat.zero_le _,HOWN.out,hb⟩
   case round=>
    obtain ⟨i,c2,L,A2,rfl,rfl,hL,hi,hown2,hb2⟩:=hrel;have hLl:L.length=max l.length (a+i):=by rw [hL];exact Qmg l a t i hal hi
    have hl2:l.length≤528384:=by have:=HLEN.out;omega
    have hLb:L.length≤1048576:=by omega
    have HL2:=Lib.hid hL;have HLL:=Lib.hid hLl;have HO2:=Lib.hid hown2;clear hL hLl hown2;by_cases hit:i<t.length
    ·have hx:∃ x,x=t[i]:=⟨_,rfl⟩
     obtain ⟨x,hx⟩:=hx;have hii:(i:Int)<(t.length:Int):=by omega
     by_cases hin:a+i<L.length
     ·have hnext:L.set (a+i) x=Qgs l a t (i+1):=by rw [HL2.out,hx];exact Zbo l a t i hal hit (by rw [← HL2.out];exact hin)
      have hsh:∃ g,A2=some ⟨g,0,none⟩:=by
       rcases HO2.out with ⟨he,hh⟩ | ⟨g,cap',he,_⟩
       ·rw [hh] at hin;simp at hin
       ·simp only [Value.slice.injEq] at he;exact ⟨g,he.1⟩
      obtain ⟨g,rfl⟩:=hsh;obtain ⟨hbg,⟨u,hcu⟩,hfu,hst⟩:=HO2.out.store (a+i) x hin;have HN:=Lib.hid hnext;have HST:=Lib.hid hst;have HB3:=Lib.hid (hb2.setCell (p:=⟨g,a+i,none⟩) hbg (Qco x));have hain:(a:Int)+i<(L.length:Int):=by omega
      subst hx;clear hnext hst
      go_wp2_with fail
      go_roundw
      case rel=>exact ⟨i+1,c2,L.set (a+i) t[i],_,by go_num,by rw [List.length_set],HN.out,by omega,HST.out,HB3.out⟩
      case measure=>simp [intOf];omega
     ·obtain ⟨v',w',hrun,hown',hb'⟩:=HO2.out.append x hLb hb2.size;have hnext:L++[x]=Qgs l a t (i+1):=by rw [HL2.out,hx];exact Zbq l a t i hal hit (by rw [← HL2.out];exact hin)
      obtain ⟨A',c',rfl⟩:=hown'.shape;rw [List.length_append,List.length_singleton] at hrun hown';have HN:=Lib.hid hnext;have HO':=Lib.hid hown';have HB':=Lib.hid (hb2.trans hb');have hain:¬ (a:Int)+i<(L.length:Int):=by omega
      clear hnext hown' hb';rw [hx] at hrun;unfold Qco at hrun
      go_wp2_with (at_builtin;refine Qds rfl _ _ _ rfl _ _ _ _ rfl rfl hrun ?_)
      go_roundw
      case rel=>exact ⟨i+1,c',L++[x],A',by go_num,by rw [List.length_append];rfl,HN.out,by omega,HO'.out,HB'.out⟩
      case measure=>simp [intOf];omega
    ·have hfin:L=putD s a t:=by rw [HL2.out,show i=t.length from by omega,HEND.out]
     have hbk:=HO2.out.back;have HF:=Lib.hid hfin;clear hfin
     go_wp2_with fail
     go_ret2
     exact ⟨by rw [← HF.out];rfl,hb2⟩
theorem Qug (s:List UInt8) (a:Int) (t:List UInt8) (w:World) (hs:s.length≤524288) (ht:t.length≤524288) (h1:-9223372036854775808≤a) (h2:a≤9223372036854775807) :
  Calls Tryz.prog 118 #[.string ⟨s.toArray⟩,.int .i64 a,.string ⟨t.toArray⟩] w fun e w'=>e=.returned (.tuple #[.string ⟨(Qbe s a t).1.toArray⟩,.int .i64 (Qbe s a t).2])∧Below w.heap.size w w':=by
 rcases (show a<0∨0≤a∧1099511627776-(t.length:Int)<a∨0≤a∧a≤1099511627776-(t.length:Int)∧4096<a+t.length∨0≤a∧a+t.length≤4096 from by omega) with h | ⟨h,h'⟩ | ⟨h,h',h''⟩ | ⟨h,h'⟩
 ·have hr:Qba a t.length=1:=by unfold Qba;rw [if_neg (by omega)]
  have hc:Qbe s a t=(s,1):=by unfold Qbe;rw [hr];rfl
  rw [hc];clear hr hc
  go_enter Tryz.func118,Tryz.ntmps118
  go_wp2_with fail
  go_ret2
  exact ⟨rfl,Below.refl _ _⟩
 ·have hr:Qba a t.length=1:=by unfold Qba;rw [if_neg (by omega)]
  have hc:Qbe s a t=(s,1):=by unfold Qbe;rw [hr];rfl
  rw [hc];clear hr hc
  go_enter Tryz.func118,Tryz.ntmps118
  go_wp2_with fail
  go_ret2
  exact ⟨rfl,Below.refl _ _⟩
 ·have hr:Qba a t.length=5:=by unfold Qba;rw [if_pos (by omega),if_pos (by omega)]
  have hc:Qbe s a t=(s,5):=by unfold Qbe;rw [hr];rfl
  rw [hc];clear hr hc
  go_enter Tryz.func118,Tryz.ntmps118
  go_wp2_with fail
  go_ret2
  exact ⟨rfl,Below.refl _ _⟩
 ·obtain ⟨a,rfl⟩:=Int.eq_ofNat_of_zero_le h;rw [dataSplit.writeD_ok s a t (by omega)];by_cases h0:t=[]
  ·subst h0;rw [if_pos rfl];simp only;have hlen:(a:Int)≤4096:=by simpa using h'
   clear h'
   go_enter Tryz.func118,Tryz.ntmps118
   go_wp2_with fail
   go_ret2
   exact ⟨rfl,Below.refl _ _⟩
  ·rw [if_neg h0];exact Qnw s a t w hs h0 (by omega)
end Go.Proofs.YtahlldgocpabjaaGreat

set_option linter.unusedSimpArgs false
namespace Go.Proofs.YtahlldgocpabjaaGreat
open Go Go.RowKit Copyhold Go.Proofs.Tryz
theorem Quj (s:Txt) (a b:Int) (hs:s.length≤1000000) (ha:I64 a) (hb:I64 b):Qaf prog 116 [aS s,aI a,aI b] (.tup [aS (Qd7 s a b).1,aI (Qd7 s a b).2]):=Qb6 (Qfy _ _) fun D w vs h=>by
 obtain ⟨u,v,t,rfl,hu,hv,ht⟩:=ra3 h;cases hu;cases hv;cases ht;exact Qyi s a b w (by omega) ha.1 ha.2 hb.1 hb.2
theorem Qrr (s:Txt) (a:Int) (t:Txt) (hs:s.length≤500000) (ha:I64 a) (ht:t.length≤500000):Qaf prog 118 [aS s,aI a,aS t] (.tup [aS (Qbe s a t).1,aI (Qbe s a t).2]):=Qb6 (Qfy _ _) fun D w vs h=>by
 obtain ⟨u,v,x,rfl,hu,hv,hx⟩:=ra3 h;cases hu;cases hv;cases hx;exact Qug s a t w (by omega) (by omega) ha.1 ha.2
theorem Qon (s:Txt) (n:Int) (hs:s.length≤1000000) (hn:I64 n):Qaf prog 117 [aS s,aI n] (.tup [aS (cutD s n).1,aI (cutD s n).2]):=Qb6 (Qfy _ _) fun D w vs h=>by
 obtain ⟨u,v,rfl,hu,hv⟩:=Qc0.two h;cases hu;cases hv;exact Zba s n w (by omega) hn.1 hn.2
theorem Qfp (n:Nod):Qaf prog 69 [.agg (nodA n)] (aI (Qgl n)):=by
 exact Qac func69 (
 .new fun b1=>.r 1<|.u 3 [b1]<|
 .be 5 n.kind 2 (fun p1=>.u 3 [b1]<|
 .lm 8 n.l entA<|.r 1<|.f (aI (Qgl n)) [] (aI (n.l.length:Int)) (by exact Sub.of_eq (congrArg aI (by unfold Qgl;simp_all))))
 <| fun p1=>.u 4 [b1]<|
 .f (aI (Qgl n)) [] (aI ((n.text).length:Int)) (by exact Sub.of_eq (congrArg aI (by unfold Qgl;simp_all))))
theorem dono {f:Fsy} {c:Cal} {e:Int} (h:(Qbu f c).2.e=e) (he:¬ e=0):doF f c=(f,errR e):=by
 have:=Qn1 (f:=f) (c:=c) rfl (by rw [h];exact he);rw [this,h]
theorem Zge {s:Txt} {a b:Int} (h:¬ (Qd7 s a b).2=0):(Qd7 s a b).1=[]:=by
 unfold Qd7 at h ⊢
 split
 ·rename_i h1;rw [if_pos h1] at h;exact absurd rfl h
 ·rfl
theorem Zbb {f:Fsy} {c:Cal} {e:Int} (hk:c.kind=3) (h:ofE f c.ino 1=e) (he:¬ e=0):doF f c=(f,errR e):=dono (by rw [Qsv hk];unfold Qi4;rw [h,if_neg he];rfl) he
theorem Zgd {f:Fsy} {c:Cal} (hk:c.kind=3) (h:ofE f c.ino 1=0):doF f c=(f,⟨(Qd7 (Qaa f c.ino).text c.at_ c.many).2,0,0,0,(Qd7 (Qaa f c.ino).text c.at_ c.many).1,[]⟩):=by
 have hd:Qbu f c=(f,⟨(Qd7 (Qaa f c.ino).text c.at_ c.many).2,0,0,0,(Qd7 (Qaa f c.ino).text c.at_ c.many).1,[]⟩):=by rw [Qsv hk];unfold Qi4;rw [if_pos h]
 by_cases he:(Qd7 (Qaa f c.ino).text c.at_ c.many).2=0
 ·exact Qex hd he
 ·rw [Qn1 hd he,Zge he];rfl
theorem Qvv {f:Fsy} {c:Cal} {e:Int} (hk:c.kind=4) (h:ofE f c.ino 1=e) (he:¬ e=0):doF f c=(f,errR e):=dono (by rw [Qsu hk];unfold Qey;rw [h,if_neg he];rfl) he
theorem Qra {f:Fsy} {c:Cal} (hk:c.kind=4) (h:ofE f c.ino 1=0):Qbu f c=(putF f (Qd3 (Qaa f c.ino) (Qbe (Qaa f c.ino).text c.at_ c.text).1),⟨(Qbe (Qaa f c.ino).text c.at_ c.text).2,(c.text.length:Int),0,0,[],[]⟩):=by rw [Qsu hk];unfold Qey;rw [if_pos h]
theorem Zj3 {f:Fsy} {c:Cal} {e:Int} (hk:c.kind=5) (h:ofE f c.ino 1=e) (he:¬ e=0):doF f c=(f,errR e):=dono (by rw [Qst hk];unfold cutO;rw [h,if_neg he];rfl) he
theorem Zeg {f:Fsy} {c:Cal} (hk:c.kind=5) (h:ofE f c.ino 1=0):Qbu f c=(putF f (Qd3 (Qaa f c.ino) (cutD (Qaa f c.ino).text c.many).1),errR (cutD (Qaa f c.ino).text c.many).2):=by rw [Qst hk];unfold cutO;rw [if_pos h]
theorem Zct {f:Fsy} {c:Cal} {e:Int} (hk:c.kind=13) (h:ofE f c.ino 3=e) (he:¬ e=0):doF f c=(f,errR e):=dono (by rw [Qne hk];exact h) he
theorem Zg7 {f:Fsy} {c:Cal} (hk:c.kind=13) (h:ofE f c.ino 3=0):doF f c=(f,⟨0,0,0,0,(Qaa f c.ino).text,[]⟩):=by
 have hd:Qbu f c=(f,⟨0,0,0,0,(Qaa f c.ino).text,[]⟩):=by
  rw [Qne hk];unfold Quc;rw [h,Qwh h]
 exact Qex hd rfl
theorem Zfa {f:Fsy} {c:Cal} {n:Nod} (hd:Qbu f c=addO f c n) {e:Int} (h:Qaq f c.ino c.name n=e) (he:¬ e=0):doF f c=(f,errR e):=dono (by rw [hd];exact h) he
theorem Qvs {f:Fsy} {c:Cal} {n:Nod} (hd:Qbu f c=addO f c n) (h:Qaq f c.ino c.name n=0):doF f c=(addF f c.ino c.name (addN f n),⟨0,f.next,0,0,[],[]⟩):=by
 have h2:addO f c n=(addF f c.ino c.name (addN f n),⟨0,f.next,0,0,[],[]⟩):=by unfold addO;rw [h];rfl
 exact Qex (hd.trans h2) rfl
theorem Zkg {f:Fsy} {c:Cal} (hk:c.kind=8) (h:(c.text.length:Int)>4096):doF f c=(f,errR 5):=dono (by rw [Qsr hk];unfold symO;rw [if_pos h];rfl) (by decide)
theorem Qz9 {f:Fsy} {c:Cal} (hk:c.kind=8) (h:¬ (c.text.length:Int)>4096):Qbu f c=addO f c ⟨0,3,0,c.text,[]⟩:=by rw [Qsr hk];unfold symO;rw [if_neg h]
theorem Qbh (e:Int):Qaf prog 68 [aI e] (.agg (repA (errR e))):=by
 exact Qac func68 (let R:AV:=.agg (repA (errR e));
 .new fun b1=>.u 3 [b1]<|
 .f R [b1] (.agg [aI e,aI 0,aI 0,aI 0,aS ([]),aN]) (by exact Sub.aggs ⟨sR,sR,sR,sR,sR,Sub.nil _ _,trivial⟩))
theorem Qro (f:Fsy) (c:Cal) (okf:OkF f) (okc:OkCal c) (hp:Qam f) (htx:c.text.length≤500000) (hk:c.kind=3):Qaf prog 70 [.agg (fsyA f),.agg (calA c)] (.tup [.agg (fsyA (doF f c).1),.agg (repA (doF f c).2)]):=by
 have hl:=hp.1;have hr:=Qad hp;have hcn:=okc.name;have hcn2:=okc.name2;have hct:=okc.text;exact Qac func70 (
 .new fun b1=>.new fun b2=>.new fun b3=>.new fun b4=>.u 3 [b1,b2]<|
 .call (Qa9 f c.ino (by omega))<|
 .r 3<|.new fun b5=>.u 2 [b5]<|
 .r 2<|.br 21 (!(Qau f c.ino)) (fun q1=>have q1:=notT q1;have p1:=booF q1;.ord [0,1,2,3]<|.u 1 [b1]<|
 .call (Qbh 6)<|
 .u 2 [b3,b4]<|
 .f (.tup [.agg (fsyA (doF f c).1),.agg (repA (doF f c).2)]) [b3,b4] (.tup [.agg (fsyA f),.agg [aI ((errR 6).e),aI ((errR 6).a),aI ((errR 6).b),aI ((errR 6).n),aS ((errR 6).text),.sl 1 false ((errR 6).names.map txA)]]) (by
  rw [Zbb hk (Zb9 q1).1 (by decide)];exact sR))
 <| fun q1=>have q1:=notF q1;have p1:=booT q1;.u 3 [b2]<|
 .is 26 (show (c.kind==13)=false from (by rw [hk];rfl))<|.u 3 [b5]<|
 .br 38 (((Qaa f c.ino).kind) != 1) (fun q2=>have p2:=bneT q2;.ord [0,1,2,3]<|.u 1 [b1]<|
 .call (Qbh 14)<|
 .u 2 [b3,b4]<|
 .f (.tup [.agg (fsyA (doF f c).1),.agg (repA (doF f c).2)]) [b3,b4] (.tup [.agg (fsyA f),.agg [aI ((errR 14).e),aI ((errR 14).a),aI ((errR 14).b),aI ((errR 14).n),aS ((errR 14).text),.sl 1 false ((errR 14).names.map txA)]]) (by
  rw [Zbb hk (Qry (k:=1) q1 (bneT q2)).1 (by decide)];exact sR))
 <| fun q2=>have p2:=bneF q2;.u 3 [b2]<|
 .is 43 (show (c.kind==3)=true from (by rw [hk];rfl))<|.u 6 [b5,b2,b2]<|
 .call (Quj (Qaa f c.ino).text c.at_ c.many (by have:=Qfd hp c.ino;omega) okc.at_ okc.many)<|
 .r 5<|.u 6 [b1,b3,b4]<|
 .f (.tup [.agg (fsyA (doF f c).1),.agg (repA (doF f c).2)]) [b3,b4] (.tup [.agg (fsyA f),.agg [aI ((Qd7 (Qaa f c.ino).text c.at_ c.many).2),aI 0,aI 0,aI 0,aS ((Qd7 (Qaa f c.ino).text c.at_ c.many).1),aN]]) (by
  have h0:=(Quq (k:=1) q1 (bneF q2)).1;rw [Zgd hk h0];exact Sub.tups ⟨sR,Qbn _ _ _ _ _,trivial⟩))
theorem Qrn (f:Fsy) (c:Cal) (okf:OkF f) (okc:OkCal c) (hp:Qam f) (htx:c.text.length≤500000) (hk:c.kind=4):Qaf prog 70 [.agg (fsyA f),.agg (calA c)] (.tup [.agg (fsyA (doF f c).1),.agg (repA (doF f c).2)]):=by
 have hl:=hp.1;have hr:=Qad hp;have hcn:=okc.name;have hcn2:=okc.name2;have hct:=okc.text;exact Qac func70 (
 .new fun b1=>.new fun b2=>.new fun b3=>.new fun b4=>.u 3 [b1,b2]<|
 .call (Qa9 f c.ino (by omega))<|
 .r 3<|.new fun b5=>.u 2 [b5]<|
 .r 2<|.br 21 (!(Qau f c.ino)) (fun q1=>have q1:=notT q1;have p1:=booF q1;.ord [0,1,2,3]<|.u 1 [b1]<|
 .call (Qbh 6)<|
 .u 2 [b3,b4]<|
 .f (.tup [.agg (fsyA (doF f c).1),.agg (repA (doF f c).2)]) [b3,b4] (.tup [.agg (fsyA f),.agg [aI ((errR 6).e),aI ((errR 6).a),aI ((errR 6).b),aI ((errR 6).n),aS ((errR 6).text),.sl 1 false ((errR 6).names.map txA)]]) (by
  rw [Qvv hk (Zb9 q1).1 (by decide)];exact sR))
 <| fun q1=>have q1:=notF q1;have p1:=booT q1;.u 3 [b2]<|
 .is 26 (show (c.kind==13)=false from (by rw [hk];rfl))<|.u 3 [b5]<|
 .br 38 (((Qaa f c.ino).kind) != 1) (fun q2=>have p2:=bneT q2;.ord [0,1,2,3]<|.u 1 [b1]<|
 .call (Qbh 14)<|
 .u 2 [b3,b4]<|
 .f (.tup [.agg (fsyA (doF f c).1),.agg (repA (doF f c).2)]) [b3,b4] (.tup [.agg (fsyA f),.agg [aI ((errR 14).e),aI ((errR 14).a),aI ((errR 14).b),aI ((errR 14).n),aS ((errR 14).text),.sl 1 false ((errR 14).names.map txA)]]) (by
  rw [Qvv hk (Qry (k:=1) q1 (bneT q2)).1 (by decide)];exact sR))
 <| fun q2=>have p2:=bneF q2;.u 3 [b2]<|
 .is 43 (show (c.kind==3)=false from (by rw [hk];rfl))<|.r 1<|.new fun b6=>.u 1 [b6]<|
 .u 4 [b5,b2]<|
 .call (Qon (Qaa f c.ino).text c.many (by have:=Qfd hp c.ino;omega) okc.many)<|
 .r 5<|.u 3 [b2]<|
 .is 69 (show (c.kind==4)=true from (by rw [hk];rfl))<|.u 6 [b5,b2,b2]<|
 .call (Qrr (Qaa f c.ino).text c.at_ c.text (by have:=Qfd hp c.ino;omega) okc.at_ htx)<|
 .r 5<|.u 5 [b2,b6]<|
 .r 2<|.br 85 (((Qbe (Qaa f c.ino).text c.at_ c.text).2) != 0) (fun q3=>have p3:=bneT q3;.ord [0,1,2,3,4]<|.u 2 [b1]<|
 .call (Qbh ((Qbe (Qaa f c.ino).text c.at_ c.text).2))<|
 .u 2 [b3,b4]<|
 .f (.tup [.agg (fsyA (doF f c).1),.agg (repA (doF f c).2)]) [b3,b4] (.tup [.agg (fsyA f),.agg [aI ((errR ((Qbe (Qaa f c.ino).text c.at_ c.text).2)).e),aI ((errR ((Qbe (Qaa f c.ino).text c.at_ c.text).2)).a),aI ((errR ((Qbe (Qaa f c.ino).text c.at_ c.text).2)).b),aI ((errR ((Qbe (Qaa f c.ino).text c.at_ c.text).2)).n),aS ((errR ((Qbe (Qaa f c.ino).text c.at_ c.text).2)).text),.sl 1 false ((errR ((Qbe (Qaa f c.ino).text c.at_ c.text).2)).names.map txA)]]) (by
  have h0:=(Quq (k:=1) q1 (bneF q2)).1;rw [dono (by rw [Qra hk h0];try rfl) (bneT q3)];exact sR))
 <| fun q3=>have p3:=bneF q3;.u 3 [b5]<|
 let J1:Jn (Unit):=⟨fun j1=>⟨[(4,.ptr 4 b3 0),(5,.ptr 5 b4 0)],[(4,.box b3 28 [.sl 5 false ((putF f (Qd3 (Qaa f c.ino) (Qbe (Qaa f c.ino).text c.at_ c.text).1)).l.map nodA),aI ((putF f (Qd3 (Qaa f c.ino) (Qbe (Qaa f c.ino).text c.at_ c.text).1)).next)]),(5,.box b4 45 [aI 0,aI ((c.text).length:Int),aI 0,aI 0,aS ([]),aN])]⟩,fun _=>True⟩
 .cut J1 (.pick [0,1]<|.u 2 [b1,b5]<|
 .fork<|.alt (.cs (args0:=[.agg (fsyA f),.agg [aI ((Qaa f c.ino).ino),aI ((Qaa f c.ino).kind),aI ((Qaa f c.ino).links),aS ((Qbe (Qaa f c.ino).text c.at_ c.text).1),.sl 2 false ((Qaa f c.ino).l.map entA)]]) (Qdj f (Qd3 (Qaa f c.ino) (Qbe (Qaa f c.ino).text c.at_ c.text).1) (Qb0 okf hp c.ino) (by omega) hr) sr2<|
 .fork<|.alt (.u 1 [b6]<|
 .pick [4,5]<|.u 2 [b3,b4]<|
 .jo J1 () [] [] sr2 bb2)
 <| .u 1 [b3]<|
 .pick [3,5]<|.u 2 [b6,b4]<|
 .jo J1 () [] [] sr2 bb2)
 <| .u 1 [b6]<|
 .pick [2,4,5]<|.cs (args0:=[.agg (fsyA f),.agg [aI ((Qaa f c.ino).ino),aI ((Qaa f c.ino).kind),aI ((Qaa f c.ino).links),aS ((Qbe (Qaa f c.ino).text c.at_ c.text).1),.sl 2 false ((Qaa f c.ino).l.map entA)]]) (Qdj f (Qd3 (Qaa f c.ino) (Qbe (Qaa f c.ino).text c.at_ c.text).1) (Qb0 okf hp c.ino) (by omega) hr) sr2<|
 .u 2 [b3,b4]<|
 .jo J1 () [] [] sr2 bb2)
 <| fun _ _=>.f (.tup [.agg (fsyA (doF f c).1),.agg (repA (doF f c).2)]) [b3,b4] (.tup [.agg [.sl 5 false ((putF f (Qd3 (Qaa f c.ino) (Qbe (Qaa f c.ino).text c.at_ c.text).1)).l.map nodA),aI ((putF f (Qd3 (Qaa f c.ino) (Qbe (Qaa f c.ino).text c.at_ c.text).1)).next)],.agg [aI 0,aI ((c.text).length:Int),aI 0,aI 0,aS ([]),aN]]) (by
  have h0:=(Quq (k:=1) q1 (bneF q2)).1;rw [Qex (Qra hk h0) (bneF q3)];have he0:=bneF q3;refine Sub.tups ⟨sR,?_,trivial⟩;show Sub _ (.agg (repA ⟨_,_,_,_,_,_⟩))
  first | (rw [he0];exact Qbn _ _ _ _ _) | (show Sub _ (.agg (repA (errR _)));rw [he0];exact Qbn _ _ _ _ _)))
theorem Qrm (f:Fsy) (c:Cal) (okf:OkF f) (okc:OkCal c) (hp:Qam f) (htx:c.text.length≤500000) (hk:c.kind=5):Qaf prog 70 [.agg (fsyA f),.agg (calA c)] (.tup [.agg (fsyA (doF f c).1),.agg (repA (doF f c).2)]):=by
 have hl:=hp.1;have hr:=Qad hp;have hcn:=okc.name;have hcn2:=okc.name2;have hct:=okc.text;exact Qac func70 (
 .new fun b1=>.new fun b2=>.new fun b3=>.new fun b4=>.u 3 [b1,b2]<|
 .call (Qa9 f c.ino (by omega))<|
 .r 3<|.new fun b5=>.u 2 [b5]<|
 .r 2<|.br 21 (!(Qau f c.ino)) (fun q1=>have q1:=notT q1;have p1:=booF q1;.ord [0,1,2,3]<|.u 1 [b1]<|
 .call (Qbh 6)<|
 .u 2 [b3,b4]<|
 .f (.tup [.agg (fsyA (doF f c).1),.agg (repA (doF f c).2)]) [b3,b4] (.tup [.agg (fsyA f),.agg [aI ((errR 6).e),aI ((errR 6).a),aI ((errR 6).b),aI ((errR 6).n),aS ((errR 6).text),.sl 1 false ((errR 6).names.map txA)]]) (by
  rw [Zj3 hk (Zb9 q1).1 (by decide)];exact sR))
 <| fun q1=>have q1:=notF q1;have p1:=booT q1;.u 3 [b2]<|
 .is 26 (show (c.kind==13)=false from (by rw [hk];rfl))<|.u 3 [b5]<|
 .br 38 (((Qaa f c.ino).kind) != 1) (fun q2=>have p2:=bneT q2;.ord [0,1,2,3]<|.u 1 [b1]<|
 .call (Qbh 14)<|
 .u 2 [b3,b4]<|
 .f (.tup [.agg (fsyA (doF f c).1),.agg (repA (doF f c).2)]) [b3,b4] (.tup [.agg (fsyA f),.agg [aI ((errR 14).e),aI ((errR 14).a),aI ((errR 14).b),aI ((errR 14).n),aS ((errR 14).text),.sl 1 false ((errR 14).names.map txA)]]) (by
  rw [Zj3 hk (Qry (k:=1) q1 (bneT q2)).1 (by decide)];exact sR))
 <| fun q2=>have p2:=bneF q2;.u 3 [b2]<|
 .is 43 (show (c.kind==3)=false from (by rw [hk];rfl))<|.r 1<|.new fun b6=>.u 1 [b6]<|
 .u 4 [b5,b2]<|
 .call (Qon (Qaa f c.ino).text c.many (by have:=Qfd hp c.ino;omega) okc.many)<|
 .r 5<|.u 3 [b2]<|
 .is 69 (show (c.kind==4)=false from (by rw [hk];rfl))<|.r 2<|.br 85 (((cutD (Qaa f c.ino).text c.many).2) != 0) (fun q3=>have p3:=bneT q3;.ord [0,1,2,3,4]<|.u 2 [b1]<|
 .call (Qbh ((cutD (Qaa f c.ino).text c.many).2))<|
 .u 2 [b3,b4]<|
 .f (.tup [.agg (fsyA (doF f c).1),.agg (repA (doF f c).2)]) [b3,b4] (.tup [.agg (fsyA f),.agg [aI ((errR ((cutD (Qaa f c.ino).text c.many).2)).e),aI ((errR ((cutD (Qaa f c.ino).text c.many).2)).a),aI ((errR ((cutD (Qaa f c.ino).text c.many).2)).b),aI ((errR ((cutD (Qaa f c.ino).text c.many).2)).n),aS ((errR ((cutD (Qaa f c.ino).text c.many).2)).text),.sl 1 false ((errR ((cutD (Qaa f c.ino).text c.many).2)).names.map txA)]]) (by
  have h0:=(Quq (k:=1) q1 (bneF q2)).1;rw [dono (by rw [Zeg hk h0];try rfl) (bneT q3)];exact sR))
 <| fun q3=>have p3:=bneF q3;.u 3 [b5]<|
 let J1:Jn (Unit):=⟨fun j1=>⟨[(4,.ptr 4 b3 0),(5,.ptr 5 b4 0)],[(4,.box b3 28 [.sl 5 false ((putF f (Qd3 (Qaa f c.ino) (cutD (Qaa f c.ino).text c.many).1)).l.map nodA),aI ((putF f (Qd3 (Qaa f c.ino) (cutD (Qaa f c.ino).text c.many).1)).next)]),(5,.box b4 45 [aI 0,aI 0,aI 0,aI 0,aS ([]),aN])]⟩,fun _=>True⟩
 .cut J1 (.pick [0,1]<|.u 2 [b1,b5]<|
 .fork<|.alt (.cs (args0:=[.agg (fsyA f),.agg [aI ((Qaa f c.ino).ino),aI ((Qaa f c.ino).kind),aI ((Qaa f c.ino).links),aS ((cutD (Qaa f c.ino).text c.many).1),.sl 2 false ((Qaa f c.ino).l.map entA)]]) (Qdj f (Qd3 (Qaa f c.ino) (cutD (Qaa f c.ino).text c.many).1) (Qb0 okf hp c.ino) (by omega) hr) sr2<|
 .fork<|.alt (.u 1 [b6]<|
 .pick [4,5]<|.u 2 [b3,b4]<|
 .jo J1 () [] [] sr2 bb2)
 <| .u 1 [b3]<|
 .pick [3,5]<|.u 2 [b6,b4]<|
 .jo J1 () [] [] sr2 bb2)
 <| .u 1 [b6]<|
 .pick [2,4,5]<|.cs (args0:=[.agg (fsyA f),.agg [aI ((Qaa f c.ino).ino),aI ((Qaa f c.ino).kind),aI ((Qaa f c.ino).links),aS ((cutD (Qaa f c.ino).text c.many).1),.sl 2 false ((Qaa f c.ino).l.map entA)]]) (Qdj f (Qd3 (Qaa f c.ino) (cutD (Qaa f c.ino).text c.many).1) (Qb0 okf hp c.ino) (by omega) hr) sr2<|
 .u 2 [b3,b4]<|
 .jo J1 () [] [] sr2 bb2)
 <| fun _ _=>.f (.tup [.agg (fsyA (doF f c).1),.agg (repA (doF f c).2)]) [b3,b4] (.tup [.agg [.sl 5 false ((putF f (Qd3 (Qaa f c.ino) (cutD (Qaa f c.ino).text c.many).1)).l.map nodA),aI ((putF f (Qd3 (Qaa f c.ino) (cutD (Qaa f c.ino).text c.many).1)).next)],.agg [aI 0,aI 0,aI 0,aI 0,aS ([]),aN]]) (by
  have h0:=(Quq (k:=1) q1 (bneF q2)).1;rw [Qex (Zeg hk h0) (bneF q3)];have he0:=bneF q3;refine Sub.tups ⟨sR,?_,trivial⟩;show Sub _ (.agg (repA ⟨_,_,_,_,_,_⟩))
  first | (rw [he0];exact Qbn _ _ _ _ _) | (show Sub _ (.agg (repA (errR _)));rw [he0];exact Qbn _ _ _ _ _)))
theorem Qpp (f:Fsy) (c:Cal) (okf:OkF f) (okc:OkCal c) (hp:Qam f) (htx:c.text.length≤500000) (hk:c.kind=13):Qaf prog 70 [.agg (fsyA f),.agg (calA c)] (.tup [.agg (fsyA (doF f c).1),.agg (repA (doF f c).2)]):=by
 have hl:=hp.1;have hr:=Qad hp;have hcn:=okc.name;have hcn2:=okc.name2;have hct:=okc.text;exact Qac func70 (
 .new fun b1=>.new fun b2=>.new fun b3=>.new fun b4=>.u 3 [b1,b2]<|
 .call (Qa9 f c.ino (by omega))<|
 .r 3<|.new fun b5=>.u 2 [b5]<|
 .r 2<|.br 21 (!(Qau f c.ino)) (fun q1=>have q1:=notT q1;have p1:=booF q1;.ord [0,1,2,3]<|.u 1 [b1]<|
 .call (Qbh 6)<|
 .u 2 [b3,b4]<|
 .f (.tup [.agg (fsyA (doF f c).1),.agg (repA (doF f c).2)]) [b3,b4] (.tup [.agg (fsyA f),.agg [aI ((errR 6).e),aI ((errR 6).a),aI ((errR 6).b),aI ((errR 6).n),aS ((errR 6).text),.sl 1 false ((errR 6).names.map txA)]]) (by
  rw [Zct hk (Zb9 q1).1 (by decide)];exact sR))
 <| fun q1=>have q1:=notF q1;have p1:=booT q1;.u 3 [b2]<|
 .is 26 (show (c.kind==13)=true from (by rw [hk];rfl))<|.u 3 [b5]<|
 .br 29 (((Qaa f c.ino).kind) != 3) (fun q2=>have p2:=bneT q2;.ord [0,1,2,3]<|.u 1 [b1]<|
 .call (Qbh 14)<|
 .u 2 [b3,b4]<|
 .f (.tup [.agg (fsyA (doF f c).1),.agg (repA (doF f c).2)]) [b3,b4] (.tup [.agg (fsyA f),.agg [aI ((errR 14).e),aI ((errR 14).a),aI ((errR 14).b),aI ((errR 14).n),aS ((errR 14).text),.sl 1 false ((errR 14).names.map txA)]]) (by
  rw [Zct hk (Qry (k:=3) q1 (bneT q2)).1 (by decide)];exact sR))
 <| fun q2=>have p2:=bneF q2;let J1:Jn (Unit):=⟨fun j1=>⟨[(2,.ptr 2 b1 0),(3,.ptr 3 b2 0),(4,.ptr 4 b3 0),(5,.ptr 5 b4 0),(6,.ptr 6 b5 0)],[(2,.box b1 28 (fsyA f)),(3,.box b2 33 (calA c)),(4,.box b3 28 (fsyA f)),(5,.box b4 45 [aI 0,aI 0,aI 0,aI 0,aS ((Qaa f c.ino).text),aN]),(6,.box b5 84 [aI ((Qaa f c.ino).ino),aI ((Qaa f c.ino).kind),aI ((Qaa f c.ino).links),aS ((Qaa f c.ino).text),.sl 2 false ((Qaa f c.ino).l.map entA)])]⟩,fun _=>True⟩
 .cut J1 (.pick [0,1]<|.u 2 [b1]<|
 .fork<|.alt (.u 1 [b5]<|
 .pick [3,4,5]<|.u 3 [b3,b4]<|
 .jo J1 () [] [] sr5 bb5)
 <| .u 1 [b3]<|
 .pick [2,3,5]<|.u 3 [b5,b4]<|
 .jo J1 () [] [] sr5 bb5)
 <| fun _ _=>.f (.tup [.agg (fsyA (doF f c).1),.agg (repA (doF f c).2)]) [b3,b4] (.tup [.agg (fsyA f),.agg [aI 0,aI 0,aI 0,aI 0,aS ((Qaa f c.ino).text),aN]]) (by
  have h0:=(Quq (k:=3) q1 (bneF q2)).1;rw [Zg7 hk h0];exact Sub.tups ⟨sR,Qbn _ _ _ _ _,trivial⟩))
end Go.Proofs.YtahlldgocpabjaaGreat
