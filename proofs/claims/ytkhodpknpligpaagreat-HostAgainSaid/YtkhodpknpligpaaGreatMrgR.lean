import Derived.Laws.FloatArith
import Derived.Laws.ComplexArith
import Derived.Test.YtkhodpknpligpaaGreatRows
import Derived.Test.YtkhodpknpligpaaGreatMrgA
import Derived.Lib.BufferWrite
import Derived.Laws.IdiomStrings
import Derived.Laws.MakeOwn
import Derived.Test.YtkhodpknpligpaaGreatMrgP
set_option maxRecDepth 100000
set_option maxHeartbeats 8000000
namespace Copyhold
open Go Ieee
def IsN (d:Datum) (n:Nat):Prop:=∃ (s:Nat),d=.number false (n*2 ^ s) (-(s:Int))∧s≤1074
theorem Qit (a s m:Nat) (h:s≤m):signed false (a*2 ^ s) (m-s)=((a*2 ^ m:Nat):Int):=by
 unfold signed;rw [if_neg (by decide),Nat.shiftLeft_eq,Nat.mul_assoc,← Nat.pow_add,show s+(m-s)=m from by omega]
theorem low1 (u v:Nat):(-(u:Int)-min (-(u:Int)) (-(v:Int))).toNat=max u v-u:=by omega
theorem low2 (u v:Nat):(-(v:Int)-min (-(u:Int)) (-(v:Int))).toNat=max u v-v:=by omega
theorem Zb8 {d e:Datum} {a b:Nat} (ha:IsN d a) (hb:IsN e b):d.order e=some (compare a b):=by
 obtain ⟨s,rfl,_⟩:=ha;obtain ⟨t,rfl,_⟩:=hb;simp only [Datum.order];rw [low1,low2,Qit a s _ (by omega),Qit b t _ (by omega)];have hp:0<2 ^ max s t:=Nat.pow_pos (by decide);generalize 2 ^ max s t=p at hp;congr 1;rcases Nat.lt_trichotomy a b with h | h | h
 ·have h2:a*p<b*p:=Nat.mul_lt_mul_of_pos_right h hp;rw [Nat.compare_eq_lt.2 h];exact Int.compare_eq_lt.2 (by omega)
 ·subst h;rw [Nat.compare_eq_eq.2 rfl];exact Int.compare_eq_eq.2 rfl
 ·have h2:b*p<a*p:=Nat.mul_lt_mul_of_pos_right h hp;rw [Nat.compare_eq_gt.2 h];exact Int.compare_eq_gt.2 (by omega)
theorem Zk6 {d e:Datum} {a b:Nat} (ha:IsN d a) (hb:IsN e b):∃ r,d.sum e=some r∧IsN r (a+b):=by
 obtain ⟨s,rfl,hs⟩:=ha;obtain ⟨t,rfl,ht⟩:=hb;simp only [Datum.sum];refine ⟨_,rfl,max s t,?_,by omega⟩;have e3:signed false (a*2 ^ s) (-(s:Int)-min (-(s:Int)) (-(t:Int))).toNat+signed false (b*2 ^ t) (-(t:Int)-min (-(s:Int)) (-(t:Int))).toNat=(((a+b)*2 ^ max s t:Nat):Int):=by
  rw [low1,low2,Qit a s _ (by omega),Qit b t _ (by omega),Nat.add_mul];omega
 simp only [e3];congr 1
 ·split
  ·rfl
  ·exact decide_eq_false (Int.not_lt.2 (Int.natCast_nonneg _))
 ·omega
theorem Qkq (n s:Nat) (h:n ≠ 0):(n*2 ^ s).log2=n.log2+s:=by
 have hp:0<2 ^ s:=Nat.pow_pos (by decide);have hn:n*2 ^ s ≠ 0:=by have:=Nat.mul_pos (Nat.pos_of_ne_zero h) hp;omega
 rw [Nat.log2_eq_iff hn];have h1:=(Nat.log2_eq_iff h).1 rfl;constructor
 ·rw [Nat.pow_add];exact Nat.mul_le_mul_right _ h1.1
 ·rw [show n.log2+s+1=(n.log2+1)+s from by omega,Nat.pow_add];exact Nat.mul_lt_mul_of_pos_right h1.2 hp
theorem Qsw (way:Toward) (neg:Bool) (n s:Nat):way.cut neg (n*2 ^ s) s=n:=by
 have hp:0<2 ^ s:=Nat.pow_pos (by decide);by_cases h0:n=0
 ·subst h0;simp only [Toward.cut,Nat.zero_mul,Nat.zero_div,Nat.zero_mod];cases way<;>simp
  all_goals (try omega)
 ·have hl:=Qkq n s h0;have hm:min s ((n*2 ^ s).log2+2)=s:=by rw [hl];omega
  simp only [Toward.cut,hm,Nat.one_shiftLeft,Nat.mul_div_cancel _ hp,Nat.mul_mod_left];cases way<;>simp
  all_goals (try omega)
theorem Qoo (n s:Nat) (hn:n<2 ^ 53) (h0:n ≠ 0) (hs:s≤1074):double.nearest false (n*2 ^ s) (-(s:Int))=(n.log2+1022)*2 ^ 52+n*2 ^ (52-n.log2):=by
 have hp:0<2 ^ s:=Nat.pow_pos (by decide);have hne:n*2 ^ s ≠ 0:=by have:=Nat.mul_pos (Nat.pos_of_ne_zero h0) hp;omega
 have hl:=Qkq n s h0;have hk:n.log2≤52:=by
  have:=(Nat.log2_lt h0).2 hn;omega
 have hlast:max (-(s:Int)+((n*2 ^ s).log2:Int)-(double.fractionBits:Int)) double.leastPlace=(n.log2:Int)-52:=by
  rw [hl];simp only [double,Format.leastPlace];have:(2:Int) ^ (11-1)=1024:=by decide
  omega
 unfold Format.nearest;rw [if_neg hne];simp only [hlast];have hfin:∀ kept,kept=n*2 ^ (52-n.log2)→double.word false (min (((n.log2:Int)-52-double.leastPlace).toNat*double.binade+kept) double.infRung)=(n.log2+1022)*2 ^ 52+n*2 ^ (52-n.log2):=by
  rintro kept rfl;have e1:((n.log2:Int)-52-double.leastPlace).toNat=n.log2+1022:=by
   simp only [double,Format.leastPlace];have:(2:Int) ^ (11-1)=1024:=by decide
   omega
  have e2:double.binade=2 ^ 52:=rfl;have e3:double.infRung=2047*2 ^ 52:=rfl;rw [e1,e2,e3];have hb:n*2 ^ (52-n.log2)<2 ^ 53:=by
   have:=(Nat.log2_eq_iff h0).1 rfl;have h3:n*2 ^ (52-n.log2)<2 ^ (n.log2+1)*2 ^ (52-n.log2):=Nat.mul_lt_mul_of_pos_right this.2 (Nat.pow_pos (by decide));rw [← Nat.pow_add,show n.log2+1+(52-n.log2)=53 from by omega] at h3;exact h3
  have hb2:(n.log2+1022)*2 ^ 52≤1074*2 ^ 52:=Nat.mul_le_mul_right _ (by omega);have hle:(n.log2+1022)*2 ^ 52+n*2 ^ (52-n.log2)≤2047*2 ^ 52:=by
   rw [show (2:Nat) ^ 53=2*2 ^ 52 from by rw [Nat.pow_succ,Nat.mul_comm]] at hb;generalize (2:Nat) ^ 52=M at *;generalize (n.log2+1022)*M=A at *;generalize n*2 ^ (52-n.log2)=B at *;omega
  simp only [Format.word];rw [if_neg (by decide),Nat.min_eq_left hle]
 apply hfin;by_cases h:s≤52-n.log2
 ·rw [show ((n.log2:Int)-52 - -(s:Int)).toNat=0 from by omega,show (-(s:Int)-((n.log2:Int)-52)).toNat=52-n.log2-s from by omega,Nat.shiftLeft_eq,Nat.mul_assoc,← Nat.pow_add,show s+(52-n.log2-s)=52-n.log2 from by omega];have:=Qsw .even false (n*2 ^ (52-n.log2)) 0;simpa using this
 ·rw [show ((n.log2:Int)-52 - -(s:Int)).toNat=s-(52-n.log2) from by omega,show (-(s:Int)-((n.log2:Int)-52)).toNat=0 from by omega,Nat.shiftLeft_zero];have:=Qsw .even false (n*2 ^ (52-n.log2)) (s-(52-n.log2));rw [Nat.mul_assoc,← Nat.pow_add,show 52-n.log2+(s-(52-n.log2))=s from by omega] at this;exact this
def fl (n:Nat):Nat:=floatOfInt .f64 (n:Int)
theorem fl_eq (n:Nat) (hn:n<2 ^ 53) (h0:n ≠ 0):fl n=(n.log2+1022)*2 ^ 52+n*2 ^ (52-n.log2):=by
 have h:=Qoo n 0 hn h0 (by decide);rw [Nat.pow_zero,Nat.mul_one] at h;exact h
theorem Zms:fl 0=0:=rfl
theorem Qpr (n:Nat) (hn:n<2 ^ 53):IsN (double.read (fl n)) n:=by
 by_cases h0:n=0
 ·subst h0;obtain ⟨s,hs⟩:∃ s:Nat,s=1074:=⟨_,rfl⟩
  refine ⟨s,?_,by omega⟩;rw [Nat.zero_mul,show (-(s:Int)) = -1074 from by omega];rfl
 ·have hk:n.log2≤52:=by
   have:=(Nat.log2_lt h0).2 hn;omega
  have hlo:2 ^ 52≤n*2 ^ (52-n.log2):=by
   have:=(Nat.log2_eq_iff h0).1 rfl;have h3:2 ^ n.log2*2 ^ (52-n.log2)≤n*2 ^ (52-n.log2):=Nat.mul_le_mul_right _ this.1
   rwa [← Nat.pow_add,show n.log2+(52-n.log2)=52 from by omega] at h3
  have hhi:n*2 ^ (52-n.log2)<2*2 ^ 52:=by
   have:=(Nat.log2_eq_iff h0).1 rfl;have h3:n*2 ^ (52-n.log2)<2 ^ (n.log2+1)*2 ^ (52-n.log2):=Nat.mul_lt_mul_of_pos_right this.2 (Nat.pow_pos (by decide));rw [← Nat.pow_add,show n.log2+1+(52-n.log2)=53 from by omega] at h3
   rwa [show (2:Nat) ^ 53=2*2 ^ 52 from by rw [Nat.pow_succ,Nat.mul_comm]] at h3
  refine ⟨52-n.log2,?_,by omega⟩;rw [fl_eq n hn h0];have hsw:double.signWeight=2048*2 ^ 52:=rfl;have hbi:double.binade=2 ^ 52:=rfl;have hin:double.infRung=2047*2 ^ 52:=rfl;have hlp:double.leastPlace = -1074:=rfl;unfold Format.read;simp only [hsw,hbi,hin,hlp];have hM:0<(2:Nat) ^ 52:=Nat.pow_pos (by decide);generalize hB:n*2 ^ (52-n.log2)=B at *;obtain ⟨c,rfl⟩:∃ c,B=2 ^ 52+c:=⟨B-2 ^ 52,by omega⟩
  generalize (2:Nat) ^ 52=M at *;have hc:c<M:=by omega
  have e0:(n.log2+1022)*M+(M+c)=c+(n.log2+1023)*M:=by
   rw [show n.log2+1023=n.log2+1022+1 from by omega,Nat.add_mul (n.log2+1022) 1 M];omega
  have hlt:c+(n.log2+1023)*M<2047*M:=by
   have:(n.log2+1023)*M≤1075*M:=Nat.mul_le_mul_right _ (by omega);omega
  rw [e0];have hdiv:(c+(n.log2+1023)*M) / M=n.log2+1023:=by rw [Nat.add_mul_div_right _ _ hM,Nat.div_eq_of_lt hc,Nat.zero_add]
  have hmod:(c+(n.log2+1023)*M) % M=c:=by rw [Nat.add_mul_mod_self_right,Nat.mod_eq_of_lt hc]
  have hge:¬ (c+(n.log2+1023)*M)<M:=by
   have:1*M≤(n.log2+1023)*M:=Nat.mul_le_mul_right _ (by omega);omega
  rw [Nat.mod_eq_of_lt (by omega),Nat.div_eq_of_lt (by omega),if_neg hge,if_pos hlt,hdiv,hmod];have e9:(-1074+((n.log2+1023-1:Nat):Int)) = -((52-n.log2:Nat):Int):=by
   clear hlt hge hdiv hmod e0 hhi hn hB hlo;omega
  rw [e9];rfl
theorem Zih (a b:Nat) (ha:a<2 ^ 53) (hb:b<2 ^ 53):FloatKind.f64.format.order (fl a) (fl b)=some (compare a b):=
 Zb8 (Qpr a ha) (Qpr b hb)
theorem fl_add (a b:Nat) (h:a+b<2 ^ 53):FloatKind.f64.format.add (fl a) (fl b)=some (fl (a+b)):=by
 obtain ⟨r,hr,s,rfl,hs⟩:=Zk6 (Qpr a (Nat.lt_of_le_of_lt (Nat.le_add_right a b) h)) (Qpr b (Nat.lt_of_le_of_lt (Nat.le_add_left b a) h));show ((double.read (fl a)).sum (double.read (fl b))).map double.write=_;rw [hr,Option.map_some];congr 1;show double.nearest false ((a+b)*2 ^ s) (-(s:Int))=_;by_cases h0:a+b=0
 ·rw [h0,Nat.zero_mul,Zms];simp [Format.nearest,Format.word]
 ·rw [Qoo _ _ h h0 hs,fl_eq _ h h0]
end Copyhold

namespace Go.Proofs.YtkhodpknpligpaaGreat
open Go.RowKit Copyhold
theorem Zd6 (n:Nat):floatOfInt .f64 (n:Int)=fl n:=rfl
theorem Zgv (a b:Nat) (w:World) :
  Calls Tryz.prog 337 #[.int .i64 a,.int .i64 b] w fun e w'=>e=.returned (.complex .f64 (fl a) (fl b))∧w=w':=by
 have ha:=Zd6 a;have hb:=Zd6 b
 go_enter Tryz.func337,Tryz.ntmps337
 go_wp2
 go_ret
 exact ⟨rfl,rfl⟩
def ofOk (a b:Int):Prop:=0≤a∧0≤b∧a≤1099511627776∧b≤1099511627776-a
theorem Qha (a b:Nat) (w:World) (h:ofOk a b) :
  Calls Tryz.prog 319 #[.int .i64 a,.int .i64 b] w fun e w'=>e=.returned (.tuple #[.complex .f64 (fl a) (fl b),.int .i64 0])∧w=w':=by
 obtain ⟨_,_,h3,h4⟩:=h;have h1:(0:Int)≤(a:Int):=by omega
 have h2:(0:Int)≤(b:Int):=by omega
 go_enter Tryz.func319,Tryz.ntmps319
 go_wp2_with (go_at_call 337;refine (Zgv a b _).mono ?_;rintro e w' ⟨rfl,rfl⟩)
 go_ret2
 exact ⟨rfl,rfl⟩
theorem Ql1 (a b:Int) (w:World) (ha1:-9223372036854775808≤a) (ha2:a≤9223372036854775807) (hb1:-9223372036854775808≤b) (hb2:b≤9223372036854775807) (h:¬ ofOk a b) :
  Calls Tryz.prog 319 #[.int .i64 a,.int .i64 b] w fun e w'=>e=.returned (.tuple #[.complex .f64 0 0,.int .i64 1])∧w=w':=by
 unfold ofOk at h;rcases (show a<0∨0≤a∧b<0∨0≤a∧0≤b∧1099511627776<a∨0≤a∧0≤b∧a≤1099511627776∧1099511627776-a<b from by omega) with h1 | ⟨h1,h2⟩ | ⟨h1,h2,h3⟩ | ⟨h1,h2,h3,h4⟩
 all_goals
  clear h
  go_enter Tryz.func319,Tryz.ntmps319
  go_wp2_with fail
  go_ret2
  exact ⟨rfl,rfl⟩
end Go.Proofs.YtkhodpknpligpaaGreat

namespace Go.Proofs.YtkhodpknpligpaaGreat
open Go.RowKit Copyhold
attribute [local go_sem] Qza
def Qnx (l:List UInt8) (a b:Int):List UInt8 × Int:=
 if 0≤a∧0≤b∧a≤1099511627776∧b≤1099511627776-a then ((l.drop a.toNat).take b.toNat,0) else ([],1)
theorem Ze6 (l:List UInt8) (a b:Int) (w:World) (hl:l.length≤140737488355328) (ha1:-9223372036854775808≤a) (ha2:a≤9223372036854775807) (hb1:-9223372036854775808≤b) (hb2:b≤9223372036854775807) :
  Calls Tryz.prog 294 #[.string ⟨l.toArray⟩,.int .i64 a,.int .i64 b] w fun e w'=>e=.returned (.tuple #[.string ⟨(Qnx l a b).1.toArray⟩,.int .i64 (Qnx l a b).2])∧w=w':=by
 by_cases h:ofOk a b
 ·have hr:Qnx l a b=((l.drop a.toNat).take b.toNat,0):=if_pos h;obtain ⟨h1,h2,h3,h4⟩:=id h;obtain ⟨a,rfl⟩:=Int.eq_ofNat_of_zero_le h1;obtain ⟨b,rfl⟩:=Int.eq_ofNat_of_zero_le h2;rw [Int.toNat_natCast,Int.toNat_natCast] at hr;have HR:=Lib.hid hr;have HO:=Lib.hid h;clear hr h ha1 hb1
  go_enter Tryz.func294,Tryz.ntmps294
  go_wp2_with fail
  refine (Qha a b _ HO.out).mono ?_;rintro e w' ⟨rfl,rfl⟩;rcases (show l.length<a∨a≤l.length∧l.length<a+b∨a+b≤l.length from by omega) with q | ⟨q,q'⟩ | q
  ·go_wp2_with fail
   go_ret2
   refine ⟨?_,rfl⟩;rw [HR.out];exact ret2 (congrArg (fun x:List UInt8=>Value.string ⟨x.toArray⟩) (by rw [List.drop_eq_nil_of_le (by omega),List.take_nil])) rfl
  ·go_wp2_with fail
   go_ret2
   refine ⟨?_,rfl⟩;rw [HR.out];exact ret2 (congrArg (fun x:List UInt8=>Value.string ⟨x.toArray⟩) (by rw [List.take_of_length_le (by rw [List.length_drop];omega)])) rfl
  ·go_wp2_with fail
   go_ret2
   refine ⟨?_,rfl⟩;rw [HR.out];exact ret2 (congrArg (fun x:List UInt8=>Value.string ⟨x.toArray⟩) (by rw [List.drop_take,Nat.add_sub_cancel_left])) rfl
 ·have hr:Qnx l a b=([],1):=if_neg h;have HR:=Lib.hid hr
  go_enter Tryz.func294,Tryz.ntmps294
  go_wp2_with fail
  refine (Ql1 a b _ ha1 ha2 hb1 hb2 h).mono ?_;rintro e w' ⟨rfl,rfl⟩
  go_wp2_with fail
  go_ret2
  exact ⟨by rw [HR.out];rfl,rfl⟩
def Qbw (a b:Int):Int:=if 0≤a∧0≤b∧a≤1099511627776∧b≤1099511627776-a then (if a+b>4096 then 5 else 0) else 1
theorem Zmt:fl 4096=4661225614328463360:=by decide +kernel
theorem Qec (a b:Int) (w:World) (ha1:-9223372036854775808≤a) (ha2:a≤9223372036854775807) (hb1:-9223372036854775808≤b) (hb2:b≤9223372036854775807) :
  Calls Tryz.prog 320 #[.int .i64 a,.int .i64 b] w fun e w'=>e=.returned (.int .i64 (Qbw a b))∧w=w':=by
 by_cases h:ofOk a b
 ·have hr:Qbw a b=if a+b>4096 then 5 else 0:=if_pos h
  obtain ⟨h1,h2,h3,h4⟩:=id h;obtain ⟨a,rfl⟩:=Int.eq_ofNat_of_zero_le h1;obtain ⟨b,rfl⟩:=Int.eq_ofNat_of_zero_le h2;have hadd:=run_float_arith (P:=Tryz.prog) w .add 360 .f64 (fl a) (fl b) (fl (a+b)) (fl_add a b (by omega));have hord:=Zih (a+b) 4096 (by omega) (by decide);rw [Zmt] at hord;have HR:=Lib.hid hr;have HO:=Lib.hid h;clear hr h ha1 hb1;by_cases h5:4096<a+b
  ·have hf:Qbw a b=5:=by rw [HR.out,if_pos (by omega)]
   rw [Nat.compare_eq_gt.2 h5] at hord;have HF:=Lib.hid hf;clear hf HR
   go_enter Tryz.func320,Tryz.ntmps320
   go_wp2_with fail
   refine (Qha a b _ HO.out).mono ?_;rintro e w' ⟨rfl,rfl⟩
   go_wp2_with fail
   go_ret
   exact ⟨by rw [HF.out];rfl,rfl⟩
  ·have hf:Qbw a b=0:=by rw [HR.out,if_neg (by omega)]
   have HF:=Lib.hid hf;clear hf HR;rcases Nat.lt_or_eq_of_le (Nat.not_lt.1 h5) with h6 | h6
   ·rw [Nat.compare_eq_lt.2 h6] at hord;clear h6
    go_enter Tryz.func320,Tryz.ntmps320
    go_wp2_with fail
    refine (Qha a b _ HO.out).mono ?_;rintro e w' ⟨rfl,rfl⟩
    go_wp2_with fail
    go_ret
    exact ⟨by rw [HF.out];rfl,rfl⟩
   ·rw [Nat.compare_eq_eq.2 h6] at hord;clear h6
    go_enter Tryz.func320,Tryz.ntmps320
    go_wp2_with fail
    refine (Qha a b _ HO.out).mono ?_;rintro e w' ⟨rfl,rfl⟩
    go_wp2_with fail
    go_ret
    exact ⟨by rw [HF.out];rfl,rfl⟩
 ·have hr:Qbw a b=1:=if_neg h;have HR:=Lib.hid hr
  go_enter Tryz.func320,Tryz.ntmps320
  go_wp2_with fail
  refine (Ql1 a b _ ha1 ha2 hb1 hb2 h).mono ?_;rintro e w' ⟨rfl,rfl⟩
  go_wp2_with fail
  go_ret
  exact ⟨by rw [HR.out];rfl,rfl⟩
end Go.Proofs.YtkhodpknpligpaaGreat

namespace Copyhold
open Go Go.RowKit
theorem Qfs {P:Program} (w:World) (dT sT ty elem:TypeId) (g o dLen dCap:Nat) (l:List UInt8) (cur:List UInt8) (t:TypeId)
  (hu:P.underlying dT=some (.slice elem)) (hs:(P.info? elem).map (·.size)=some 1) (hg:w.heap[g]?=some (.cells (Lib.byteCells cur).toArray t (0,0))) (hfit:o+dLen=cur.length) :
  (Builtin.copy_ #[dT,sT] ty #[.slice (some ⟨g,o,none⟩) dLen dCap,.string ⟨l.toArray⟩]).run P w =
   .ok (goInt (Nat.min l.length dLen)) (w.setRow g (Lib.byteCells (cur.take o++l.take dLen++cur.drop (o+l.length))).toArray):=by
 have hsz:(⟨l.toArray⟩:ByteArray).size=l.length:=by simp [ByteArray.size]
 have hlen:(Lib.byteCells (l.take dLen)).length=Nat.min l.length dLen:=by rw [Lib.byteCells_length,List.length_take,Nat.min_comm]
 have hcl:(Lib.byteCells cur).length=cur.length:=Lib.byteCells_length _;have hst:=run_storeCells_at P g o t (Lib.byteCells (l.take dLen)) 0 (Lib.byteCells cur).toArray w hg (by rw [hlen];simp [hcl];have:Nat.min l.length dLen≤dLen:=Nat.min_le_right l.length dLen;omega) (Lib.byteCells_one _);have htk:List.take (Nat.min l.length dLen) (List.map (fun b:UInt8=>Value.int IntKind.u8 (b.toNat:Int)) l)=Lib.byteCells (l.take dLen):=by
  unfold Lib.byteCells;rw [List.map_take];show List.take (min l.length dLen) _=_;rw [List.take_eq_take_iff];simp;omega
 have hrow:((Lib.byteCells cur).take o++Lib.byteCells (l.take dLen)++(Lib.byteCells cur).drop (o+Nat.min l.length dLen))=Lib.byteCells (cur.take o++l.take dLen++cur.drop (o+l.length)):=by
  unfold Lib.byteCells;rw [List.map_append,List.map_append,List.map_take,List.map_take,List.map_drop];congr 1;show List.drop (o+min l.length dLen) _=_;rw [List.drop_eq_drop_iff];simp;omega
 rw [hlen] at hst;simp only [Nat.add_zero] at hst;rw [hrow] at hst;cases hq:P.info? elem with
 | none=>simp [hq] at hs
 | some i=>
  simp [Builtin.copy_,run_underlying hu,Builtin.lenOf,Builtin.firstCells,Go.sizeOf,typeInfo,hq,hsz];rw [htk,hst];simp [Result.andThen,List.append_assoc]
theorem Zc0 (n:Nat):madeCells (Value.int .u8 0).cells n=(Lib.byteCells (List.replicate n 0)).toArray:=by
 unfold madeCells;have:(Value.int .u8 0).cells=#[Value.int .u8 0]:=rfl;rw [this];apply Array.ext
 ·simp [Lib.byteCells]
 ·intro i h1 h2;simp [Lib.byteCells,Nat.mod_one]
end Copyhold

set_option maxRecDepth 100000
namespace Go.Proofs.YtkhodpknpligpaaGreat
open Go.RowKit Copyhold
attribute [local go_sem] Qza
def Qjh (l:List UInt8) (n:Nat):List UInt8:=l.take n++List.replicate (n-l.length) 0
theorem Qeb (l:List UInt8) (n:Nat):(Qjh l n).length=n:=by
 simp [Qjh];omega
def Qq7 (w:World) (g:Nat) (l:List UInt8):Prop:=w.heap[g]?=some (.cells (Lib.byteCells l).toArray 5 (0,0))
theorem Qnv (w:World) (n:Nat) (hn:n≤140737488355328):(Instr.makeSlice 300 (.int .i64 (n:Int)) (.int .i64 (n:Int))).run Tryz.prog w=.ok (.slice (some ⟨w.heap.size,0,none⟩) n n) (w.alloc (.cells (Lib.byteCells (List.replicate n 0)).toArray 5)):=by
 have h:=run_make (P:=Tryz.prog) w 300 5 _ (.int .u8 0) rfl rfl rfl .i64 .i64 (n:Int) (n:Int) (by omega) (by omega) (by show (1:Int)*_≤_;omega) (by omega);rw [Zc0,show (Tryz.prog.types[5]'(by decide)).size=1 from rfl,Nat.mul_one,Int.toNat_natCast] at h;exact h
theorem Qih (l:List UInt8) (n:Nat) (w:World) (_hl:l.length≤140737488355328) (hn:n≤140737488355328) :
  Calls Tryz.prog 321 #[.string ⟨l.toArray⟩,.int .i64 n] w fun e w'=>e=.returned (.slice (some ⟨w.heap.size,0,none⟩) n n)∧Qq7 w' w.heap.size (Qjh l n)∧Below w.heap.size w w':=by
 have hmk:=Qnv w n hn;have hb:=(Below.refl w.heap.size w).alloc (Nat.le_refl _) (.cells (Lib.byteCells (List.replicate n 0)).toArray 5);have hg:=heap_alloc_new w (.cells (Lib.byteCells (List.replicate n 0)).toArray 5);obtain ⟨W,hW⟩:∃ W,W=w.alloc (.cells (Lib.byteCells (List.replicate n 0)).toArray 5):=⟨_,rfl⟩
 rw [← hW] at hmk hb hg;have hcp:=Qfs (P:=Tryz.prog) W 300 9 3 5 w.heap.size 0 n n l (List.replicate n 0) 5 rfl rfl hg (by simp);have hf:(List.replicate n (0:UInt8)).take 0++l.take n++(List.replicate n 0).drop (0+l.length)=Qjh l n:=by simp [Qjh]
 rw [hf] at hcp;have HB:=Lib.hid hb;have HG:=Lib.hid hg;clear hb hg hf hW
 go_enter Tryz.func321,Tryz.ntmps321
 go_wp2_with fail
 go_ret
 exact ⟨rfl,setRow_heap _ _ _ _ _ _ HG.out,Qg3 HB.out (Nat.le_refl _) _⟩
def cutD (l:List UInt8) (n:Int):List UInt8 × Int:=if Qbw 0 n=0 then (Qjh l n.toNat,0) else (l,Qbw 0 n)
theorem Qfa {w:World} {g:Nat} {l:List UInt8} (h:Qq7 w g l):(convert 300 9 (.slice (some ⟨g,0,none⟩) l.length l.length)).run Tryz.prog w=.ok (.string ⟨l.toArray⟩) w:=
 run_convert_bytes_back w _ _ 5 _ _ l rfl rfl rfl fun j hj=>by
  have hadd:(⟨g,0,none⟩:Addr).add j=⟨g,j,none⟩:=by unfold Addr.add;split<;>simp_all
  rw [hadd];simp only [World.cell?,show w.heap[g]?=some (.cells (Lib.byteCells l).toArray 5 (0,0)) from h];simp [Lib.byteCells,hj]
theorem Zi9 (l:List UInt8) (n:Int) (w:World) (hl:l.length≤140737488355328) (h1:-9223372036854775808≤n) (h2:n≤9223372036854775807) :
  Calls Tryz.prog 297 #[.string ⟨l.toArray⟩,.int .i64 n] w fun e w'=>e=.returned (.tuple #[.string ⟨(cutD l n).1.toArray⟩,.int .i64 (cutD l n).2])∧Below w.heap.size w w':=by
 by_cases h:Qbw 0 n=0
 ·have hn:0≤n∧n≤4096:=by
   unfold Qbw at h
   split at h
   ·split at h<;>omega
   ·cases h
  have hc:cutD l n=(Qjh l n.toNat,0):=if_pos h;obtain ⟨n,rfl⟩:=Int.eq_ofNat_of_zero_le hn.1;rw [Int.toNat_natCast] at hc;have HR:=Lib.hid h;have HC:=Lib.hid hc;clear h hc h1
  go_enter Tryz.func297,Tryz.ntmps297
  go_wp2_with fail
  refine (Qec 0 n _ (by decide) (by decide) (by omega) (by omega)).mono ?_;rintro e w1 ⟨rfl,rfl⟩;rw [HR.out]
  go_wp2_with fail
  refine (Qih l n _ hl (by omega)).mono ?_;rintro e w1 ⟨rfl,hb1,hb⟩;have hk:=Qfa hb1;rw [Qeb] at hk
  go_wp2_with fail
  go_ret2
  exact ⟨by rw [HC.out];rfl,hb⟩
 ·have hc:cutD l n=(l,Qbw 0 n):=if_neg h;obtain ⟨z,hz⟩:∃ z,z=Qbw 0 n:=⟨_,rfl⟩
  rw [← hz] at h hc;have HZ:=Lib.hid hz;have HC:=Lib.hid hc;have hq:(z==0)=false:=by simpa using h
  clear hc hz h
  go_enter Tryz.func297,Tryz.ntmps297
  go_wp2_with fail
  refine (Qec 0 n _ (by decide) (by decide) h1 h2).mono ?_;rintro e w1 ⟨rfl,rfl⟩;rw [← HZ.out]
  go_wp2_with fail
  go_ret2
  exact ⟨by rw [HC.out];rfl,Below.refl _ _⟩
def putD (l:List UInt8) (a:Nat) (t:List UInt8):List UInt8:=
 (Qjh l (max l.length (a+t.length))).take a++t++(Qjh l (max l.length (a+t.length))).drop (a+t.length)
def Qcx (l:List UInt8) (a:Int) (t:List UInt8):List UInt8 × Int:=
 if Qbw a t.length=0 then (if t=[] then l else putD l a.toNat t,0) else (l,Qbw a t.length)
theorem Qfw {a b:Int} (h:Qbw a b=0):0≤a∧0≤b∧a+b≤4096:=by
 unfold Qbw at h
 split at h
 ·split at h<;>omega
 ·cases h
theorem Qmf (l:List UInt8) (a:Nat) (t:List UInt8):(putD l a t).length=max l.length (a+t.length):=by
 unfold putD;simp [Qeb];omega
theorem Qz3 (l:List UInt8) (a:Int) (t:List UInt8) (w:World) (hl:l.length≤140737488355328) (ht:t.length≤140737488355328) (h1:-9223372036854775808≤a) (h2:a≤9223372036854775807) :
  Calls Tryz.prog 295 #[.string ⟨l.toArray⟩,.int .i64 a,.string ⟨t.toArray⟩] w fun e w'=>e=.returned (.tuple #[.string ⟨(Qcx l a t).1.toArray⟩,.int .i64 (Qcx l a t).2])∧Below w.heap.size w w':=by
 by_cases h:Qbw a t.length=0
 ·have hn:=Qfw h;obtain ⟨a,rfl⟩:=Int.eq_ofNat_of_zero_le hn.1;rcases Classical.em (t=[]) with rfl | h0
  ·have hc:Qcx l a []=(l,0):=by unfold Qcx;rw [if_pos h,if_pos rfl]
   have HR:=Lib.hid h;have HC:=Lib.hid hc;clear h hc h1 hn
   go_enter Tryz.func295,Tryz.ntmps295
   go_wp2_with fail
   refine (Qec a 0 _ (by omega) (by omega) (by decide) (by decide)).mono ?_;rintro e w1 ⟨rfl,rfl⟩;rw [show Qbw a 0=0 from HR.out]
   go_wp2_with fail
   go_ret2
   exact ⟨by rw [HC.out];rfl,Below.refl _ _⟩
  ·have hc:Qcx l a t=(putD l a t,0):=by unfold Qcx;rw [if_pos h,if_neg h0,Int.toNat_natCast]
   have hm:∃ m:Nat,m=max l.length (a+t.length):=⟨_,rfl⟩
   obtain ⟨m,hm⟩:=hm;have hp:putD l a t=(Qjh l m).take a++t.take (m-a)++(Qjh l m).drop (a+t.length):=by
    unfold putD;rw [hm,List.take_of_length_le (l:=t) (by omega)]
   have hs:(⟨t.toArray⟩:ByteArray) ≠ ⟨#[]⟩:=fun e=>h0 (by simpa using congrArg (fun x:ByteArray=>x.data.toList) e);have HR:=Lib.hid h;have HC:=Lib.hid hc;have HP:=Lib.hid hp;have HM:=Lib.hid hm;have hpl:=Qmf l a t;rw [← hm] at hpl;have HL:=Lib.hid hpl;have hmm:(max (l.length:Int) ((a:Int)+t.length))=m:=by omega
   have htp:0<t.length:=List.length_pos_iff.2 h0;have ham:a<m:=by omega
   have hie:t.isEmpty=false:=by simpa using h0
   have hmb:m≤140737488355328:=by omega
   clear h hc h1 hp hm hpl
   go_enter Tryz.func295,Tryz.ntmps295
   go_wp2_with fail
   refine (Qec a t.length _ (by omega) (by omega) (by omega) (by omega)).mono ?_;rintro e w1 ⟨rfl,rfl⟩;rw [HR.out]
   go_wp2_with fail
   ·have hmq:(a:Int)+t.length=m:=by have:=HM.out;omega
    rw [hmq];refine (Qih l m _ hl hmb).mono ?_;rintro e w1 ⟨rfl,hb1,hb⟩;have hcp:=Qfs (P:=Tryz.prog) w1 300 9 3 5 w.heap.size a (m-a) (m-a) t (Qjh l m) 5 rfl rfl hb1 (by rw [Qeb];omega);rw [← HP.out] at hcp;have hb2:Qq7 (w1.setRow w.heap.size (Lib.byteCells (putD l a t)).toArray) w.heap.size (putD l a t):=setRow_heap _ _ _ _ _ _ hb1;have hb3:=Qg3 hb (Nat.le_refl _) (Lib.byteCells (putD l a t)).toArray;obtain ⟨W,hW⟩:∃ W,W=w1.setRow w.heap.size (Lib.byteCells (putD l a t)).toArray:=⟨_,rfl⟩
    rw [← hW] at hcp hb2 hb3;have hk:=Qfa hb2;rw [HL.out] at hk;clear hW
    go_wp2_with fail
    go_ret2
    exact ⟨by rw [HC.out];rfl,hb3⟩
   ·have hmq:(l.length:Int)=m:=by have:=HM.out;omega
    rw [hmq];refine (Qih l m _ hl hmb).mono ?_;rintro e w1 ⟨rfl,hb1,hb⟩;have hcp:=Qfs (P:=Tryz.prog) w1 300 9 3 5 w.heap.size a (m-a) (m-a) t (Qjh l m) 5 rfl rfl hb1 (by rw [Qeb];omega);rw [← HP.out] at hcp;have hb2:Qq7 (w1.setRow w.heap.size (Lib.byteCells (putD l a t)).toArray) w.heap.size (putD l a t):=setRow_heap _ _ _ _ _ _ hb1;have hb3:=Qg3 hb (Nat.le_refl _) (Lib.byteCells (putD l a t)).toArray;obtain ⟨W,hW⟩:∃ W,W=w1.setRow w.heap.size (Lib.byteCells (putD l a t)).toArray:=⟨_,rfl⟩
    rw [← hW] at hcp hb2 hb3;have hk:=Qfa hb2;rw [HL.out] at hk;clear hW
    go_wp2_with fail
    go_ret2
    exact ⟨by rw [HC.out];rfl,hb3⟩
 ·have hc:Qcx l a t=(l,Qbw a t.length):=if_neg h;obtain ⟨z,hz⟩:∃ z,z=Qbw a t.length:=⟨_,rfl⟩
  rw [← hz] at h hc;have HZ:=Lib.hid hz;have HC:=Lib.hid hc;have hq:(z==0)=false:=by simpa using h
  clear hc hz h
  go_enter Tryz.func295,Tryz.ntmps295
  go_wp2_with fail
  refine (Qec a t.length _ h1 h2 (by omega) (by omega)).mono ?_;rintro e w1 ⟨rfl,rfl⟩;rw [← HZ.out]
  go_wp2_with fail
  go_ret2
  exact ⟨by rw [HC.out];rfl,Below.refl _ _⟩
end Go.Proofs.YtkhodpknpligpaaGreat

set_option linter.unusedVariables false
set_option linter.unusedSimpArgs false
namespace Go.Proofs.YtkhodpknpligpaaGreat
open Go Go.RowKit Copyhold Go.Proofs.Tryz
theorem ra3 {D:Nat→Prop} {w:World} {x y z:AV} {vs:Array Value} (h:Qc8 D w [x,y,z] vs):∃ u v t,vs=#[u,v,t]∧Ra D w x u∧Ra D w y v∧Ra D w z t:=by
 obtain ⟨h1,h2⟩:=h
 match vs,h1 with
 | ⟨[u,v,t]⟩,_=>exact ⟨u,v,t,rfl,h2 0 x u rfl rfl,h2 1 y v rfl rfl,h2 2 z t rfl rfl⟩
theorem Qzz (s:Txt) (a b:Int) (hs:s.length≤1000000) (ha:I64 a) (hb:I64 b):Qag prog 294 [aS s,aI a,aI b] (.tup [aS (Qnx s a b).1,aI (Qnx s a b).2]):=Qdz (Qlv _ _) fun D w vs h=>by
 obtain ⟨u,v,t,rfl,hu,hv,ht⟩:=ra3 h;cases hu;cases hv;cases ht;exact (Ze6 s a b w (by omega) ha.1 ha.2 hb.1 hb.2).mono fun e w' ⟨g1,g2⟩=>⟨g1,g2 ▸ Below.refl _ _⟩
theorem Qu2 (s:Txt) (a:Int) (t:Txt) (hs:s.length≤1000000) (ha:I64 a) (ht:t.length≤1000000):Qag prog 295 [aS s,aI a,aS t] (.tup [aS (Qcx s a t).1,aI (Qcx s a t).2]):=Qdz (Qlv _ _) fun D w vs h=>by
 obtain ⟨u,v,x,rfl,hu,hv,hx⟩:=ra3 h;cases hu;cases hv;cases hx;exact Qz3 s a t w (by omega) (by omega) ha.1 ha.2
theorem Ze5 (s:Txt) (n:Int) (hs:s.length≤1000000) (hn:I64 n):Qag prog 297 [aS s,aI n] (.tup [aS (cutD s n).1,aI (cutD s n).2]):=Qdz (Qlv _ _) fun D w vs h=>by
 obtain ⟨u,v,rfl,hu,hv⟩:=Qc8.two h;cases hu;cases hv;exact Zi9 s n w (by omega) hn.1 hn.2
theorem Qu4 (l:List Ent) (hl:l.length≤1000000):Qag prog 279 [.sl 2 false (l.map entA)] (.sl 1 false ((l.map Ent.name).map txA)):=by
 intro D w vs hD hv;obtain ⟨u,rfl,hu⟩:=Qc8.one hv;obtain ⟨A,c,rfl,he⟩:=Qj9 hu;refine (callsIn_wide.1 (Zjx 3 (Nat.le_refl _) A c (lI l) (by rw [Zc9];exact hl) w he)).mono ?_;rintro e w' ⟨v,rfl,hown,hb⟩;have hrow:=Row.of_owns hown;have e1:(lI l).map (fun x=>strV x.1)=(l.map Ent.name).map strV:=by simp [lI]
 rw [e1] at hrow;refine ⟨v,fun b=>D b∨(w.heap.size≤b∧b<w'.heap.size),rfl,hb,fun b h=>.inl h,fun b h=>?_,Zgn hrow (Zni (At.of_owns hown) hrow.lies fun b h1 h2=>.inr ⟨h1,h2⟩)⟩;rcases h with h | ⟨h1,h2⟩
 ·exact ⟨Nat.lt_of_lt_of_le (hD b h) hb.size,.inl h⟩
 ·exact ⟨h2,.inr h1⟩
def Qrh (n:Nod):Int:=if n.kind=2 then (n.l.length:Int) else (n.text.length:Int)
structure Cal where
 kind:Int
 ino:Int
 to:Int
 at_:Int
 many:Int
 name:Txt
 name2:Txt
 text:Txt
structure Rep where
 e:Int
 a:Int
 b:Int
 n:Int
 text:Txt
 names:List Txt
 deriving DecidableEq
def calA (c:Cal):List AV:=[aI c.kind,aI c.ino,aI c.to,aI c.at_,aI c.many,aS c.name,aS c.name2,aS c.text]
def repA (r:Rep):List AV:=[aI r.e,aI r.a,aI r.b,aI r.n,aS r.text,.sl 1 false (r.names.map txA)]
def errR (e:Int):Rep:=⟨e,0,0,0,[],[]⟩
structure OkCal (c:Cal):Prop where
 kind:I64 c.kind
 ino:I64 c.ino
 to:I64 c.to
 at_:I64 c.at_
 many:I64 c.many
 name:c.name.length≤1000000
 name2:c.name2.length≤1000000
 text:c.text.length≤1000000
theorem Qgg (n:Nod):Qag prog 293 [.agg (nodA n)] (aI (Qrh n)):=by
 exact Qac func293 (
 .new fun b1=>.r 1<|.u 3 [b1]<|
 .be 5 n.kind 2 (fun p1=>.u 3 [b1]<|
 .lm 8 n.l entA<|.r 1<|.f (aI (Qrh n)) [] (aI (n.l.length:Int)) (by exact Sub.of_eq (congrArg aI (by unfold Qrh;simp_all))))
 <| fun p1=>.u 4 [b1]<|
 .f (aI (Qrh n)) [] (aI ((n.text).length:Int)) (by exact Sub.of_eq (congrArg aI (by unfold Qrh;simp_all))))
def ofE (f:Fsy) (i k:Int):Int:=if Qav f i=true then (if (Qab f i).kind=k then 0 else 14) else 6
def ofN (f:Fsy) (i k:Int):Nod:=if ofE f i k=0 then Qab f i else nod0
def Qky (n:Nod) (t:Txt):Nod:=⟨n.ino,n.kind,n.links,t,n.l⟩
noncomputable def Qzj (f:Fsy) (c:Cal):Fsy × Rep:=(f,⟨Qb8 f c.ino c.name,(lookN f c.ino c.name).ino,0,0,[],[]⟩)
def Qk0 (f:Fsy) (c:Cal):Fsy × Rep:=if Qav f c.ino=true then (f,⟨0,(Qab f c.ino).kind,(Qab f c.ino).links,Qrh (Qab f c.ino),[],[]⟩) else (f,errR 6)
def Qk1 (f:Fsy) (c:Cal):Fsy × Rep:=if ofE f c.ino 1=0 then (f,⟨(Qnx (Qab f c.ino).text c.at_ c.many).2,0,0,0,(Qnx (Qab f c.ino).text c.at_ c.many).1,[]⟩) else (f,errR (ofE f c.ino 1))
def Qga (f:Fsy) (c:Cal):Fsy × Rep:=if ofE f c.ino 1=0 then (putF f (Qky (Qab f c.ino) (Qcx (Qab f c.ino).text c.at_ c.text).1),⟨(Qcx (Qab f c.ino).text c.at_ c.text).2,(c.text.length:Int),0,0,[],[]⟩) else (f,errR (ofE f c.ino 1))
def cutO (f:Fsy) (c:Cal):Fsy × Rep:=if ofE f c.ino 1=0 then (putF f (Qky (Qab f c.ino) (cutD (Qab f c.ino).text c.many).1),errR (cutD (Qab f c.ino).text c.many).2) else (f,errR (ofE f c.ino 1))
noncomputable def addO (f:Fsy) (c:Cal) (n:Nod):Fsy × Rep:=(if Qbq f c.ino c.name n=0 then addF f c.ino c.name (addN f n) else f,⟨Qbq f c.ino c.name n,f.next,0,0,[],[]⟩)
noncomputable def symO (f:Fsy) (c:Cal):Fsy × Rep:=if (c.text.length:Int)>4096 then (f,errR 5) else addO f c ⟨0,3,0,c.text,[]⟩
noncomputable def Qdj (f:Fsy) (c:Cal) (dir:Bool) (odd:Int):Fsy × Rep:=
 if Qb8 f c.ino c.name=0 then (if (((lookN f c.ino c.name).kind==2) != dir)=true then (f,errR odd) else (Qkz f c.ino c.name,errR (Qee f c.ino c.name))) else (f,errR (Qb8 f c.ino c.name))
noncomputable def Qur (f:Fsy) (c:Cal):Fsy × Rep:=(Qm3 f c.ino c.name c.to,errR (Qdy f c.ino c.name c.to))
noncomputable def renO (f:Fsy) (c:Cal):Fsy × Rep:=(movF f c.ino c.name c.to c.name2,errR (Qdt f c.ino c.name c.to c.name2))
def Qy3 (f:Fsy) (c:Cal):Fsy × Rep:=(f,⟨ofE f c.ino 3,0,0,0,(ofN f c.ino 3).text,[]⟩)
def Qy7 (f:Fsy) (c:Cal):Fsy × Rep:=(f,⟨dirE f c.ino,0,0,0,[],(dirN f c.ino).l.map Ent.name⟩)
def txtS (l:List Nod):Nat:=(l.map fun n=>n.text.length).sum
def sfsO (f:Fsy):Fsy × Rep:=(f,⟨0,(f.l.length:Int),(txtS f.l:Int),0,[],[]⟩)
theorem ofE_6 {f:Fsy} {i k:Int} (h:Qav f i=false):ofE f i k=6∧ofN f i k=nod0:=by
 have e:ofE f i k=6:=by unfold ofE;rw [h];rfl
 exact ⟨e,by unfold ofN;rw [e];rfl⟩
theorem ofE_14 {f:Fsy} {i k:Int} (h:Qav f i=true) (h2:¬ (Qab f i).kind=k):ofE f i k=14∧ofN f i k=nod0:=by
 have e:ofE f i k=14:=by unfold ofE;rw [if_pos h,if_neg h2]
 exact ⟨e,by unfold ofN;rw [e];rfl⟩
theorem ofE_0 {f:Fsy} {i k:Int} (h:Qav f i=true) (h2:(Qab f i).kind=k):ofE f i k=0∧ofN f i k=Qab f i:=by
 have e:ofE f i k=0:=by unfold ofE;rw [if_pos h,if_pos h2]
 exact ⟨e,by unfold ofN;rw [e];rfl⟩
theorem Zcg {f:Fsy} {i k:Int} (h:ofE f i k=0):ofN f i k=Qab f i:=if_pos h
theorem Qb4 (e a b n:Int) (t:Txt):Sub (.agg [aI e,aI a,aI b,aI n,aS t,aN]) (.agg (repA ⟨e,a,b,n,t,[]⟩)):=Sub.aggs ⟨sR,sR,sR,sR,sR,Sub.nil _ _,trivial⟩
theorem Qju {f:Fsy} (hp:Qat f) (i:Int):(Qab f i).text.length≤4096:=by
 by_cases h:Qav f i=true
 ·rcases ((Qbe.1 hp).2.2.1 _ (Qe8 h)).1.2.2.2 with ⟨_,h1,_⟩ | ⟨_,h1,_⟩
  ·rw [h1];decide
  ·exact h1
 ·rw [(Qvu (Qg4 (by simpa using h))).2];decide
theorem Qv6 {f:Fsy} (hp:Qat f) {n:Nod} (hn:n∈f.l):n.text.length≤4096:=by
 rcases ((Qbe.1 hp).2.2.1 _ hn).1.2.2.2 with ⟨_,h1,_⟩ | ⟨_,h1,_⟩
 ·rw [h1];decide
 ·exact h1
theorem Qp0 (f:Fsy) (i k:Int) (hp:Qat f):Qag prog 276 [.agg (fsyA f),aI i,aI k] (.tup [.agg (nodA (ofN f i k)),aI (ofE f i k)]):=by
 have hl:=hp.1;have hr:=Qah hp;exact Qac func276 (
 .new fun b1=>.new fun b2=>.r 1<|.u 2 [b1]<|
 .call (Qce f i (by omega) hr)<|
 .r 3<|.new fun b3=>.u 2 [b3]<|
 .r 2<|.br 17 (!(Qav f i)) (fun q1=>have q1:=notT q1;have p1:=booF q1;.u 3 [b2]<|
 .f (.tup [.agg (nodA (ofN f i k)),aI (ofE f i k)]) [b2] (.tup [.agg [aI 0,aI 0,aI 0,aS ([]),aN],aI 6]) (by
  obtain ⟨e1,e2⟩:=ofE_6 (k:=k) q1;exact Sub.tups ⟨Qi5 e2,Sub.of_eq (congrArg aI e1.symm),trivial⟩))
 <| fun q1=>have q1:=notF q1;have p1:=booT q1;.u 4 [b3]<|
 .br 22 (((Qab f i).kind) != k) (fun q2=>have p2:=bneT q2;.u 3 [b2]<|
 .f (.tup [.agg (nodA (ofN f i k)),aI (ofE f i k)]) [b2] (.tup [.agg [aI 0,aI 0,aI 0,aS ([]),aN],aI 14]) (by
  obtain ⟨e1,e2⟩:=ofE_14 q1 (bneT q2);exact Sub.tups ⟨Qi5 e2,Sub.of_eq (congrArg aI e1.symm),trivial⟩))
 <| fun q2=>have p2:=bneF q2;.u 3 [b3,b2]<|
 .f (.tup [.agg (nodA (ofN f i k)),aI (ofE f i k)]) [b2] (.tup [.agg [aI ((Qab f i).ino),aI ((Qab f i).kind),aI ((Qab f i).links),aS ((Qab f i).text),.sl 2 false ((Qab f i).l.map entA)],aI 0]) (by
  obtain ⟨e1,e2⟩:=ofE_0 q1 (bneF q2);rw [e1,e2];exact sR))
theorem Qz0 (f:Fsy) (c:Cal) (okf:OkF f) (okc:OkCal c) (hp:Qat f):Qag prog 259 [.agg (fsyA f),.agg [aI c.kind,aI c.ino,aI c.to,aI c.at_,aI c.many,aS c.name,aS c.name2,aS c.text]] (.tup [.agg (fsyA (Qzj f c).1),.agg (repA (Qzj f c).2)]):=by
 have hl:=hp.1;have hr:=Qah hp;have hcn:=okc.name;have hcn2:=okc.name2;have hct:=okc.text;exact Qac func259 (let R:AV:=.tup [.agg (fsyA (Qzj f c).1),.agg (repA (Qzj f c).2)];
 .new fun b1=>.new fun b2=>.new fun b3=>.new fun b4=>.u 5 [b1,b2,b2]<|
 .call (Qjb f c.ino c.name hp hcn)<|
 .r 3<|.new fun b5=>.u 2 [b5]<|
 let J1:Jn (Unit):=⟨fun j1=>⟨[(4,.ptr 4 b3 0),(5,.ptr 5 b4 0)],[(4,.box b3 38 (fsyA f)),(5,.box b4 45 [aI (Qb8 f c.ino c.name),aI ((lookN f c.ino c.name).ino),aI 0,aI 0,aS ([]),aN])]⟩,fun _=>True⟩
 .cut J1 (.pick [0,1,2]<|.u 3 [b1]<|
 .fork<|.alt (.u 1 [b5]<|
 .pick [4,5,6]<|.u 3 [b3,b4]<|
 .jo J1 () [] [] sr2 bb2)
 <| .u 1 [b3]<|
 .pick [3,4,6]<|.u 3 [b5,b4]<|
 .jo J1 () [] [] sr2 bb2)
 <| fun _ _=>.f R [b3,b4] (.tup [.agg (fsyA f),.agg [aI (Qb8 f c.ino c.name),aI ((lookN f c.ino c.name).ino),aI 0,aI 0,aS ([]),aN]]) (by exact Sub.tups ⟨sR,(Qb4 _ _ _ _ _),trivial⟩))
theorem Qzy (f:Fsy) (c:Cal) (okf:OkF f) (okc:OkCal c) (hp:Qat f):Qag prog 260 [.agg (fsyA f),.agg [aI c.kind,aI c.ino,aI c.to,aI c.at_,aI c.many,aS c.name,aS c.name2,aS c.text]] (.tup [.agg (fsyA (Qk0 f c).1),.agg (repA (Qk0 f c).2)]):=by
 have hl:=hp.1;have hr:=Qah hp;have hcn:=okc.name;have hcn2:=okc.name2;have hct:=okc.text;exact Qac func260 (
 .new fun b1=>.new fun b2=>.new fun b3=>.new fun b4=>.u 3 [b1,b2]<|
 .call (Qce f c.ino (by omega) hr)<|
 .r 3<|.new fun b5=>.u 2 [b5]<|
 .r 2<|.br 16 (!(Qav f c.ino)) (fun q1=>have q1:=notT q1;have p1:=booF q1;.u 4 [b1,b3,b4]<|
 .f (.tup [.agg (fsyA (Qk0 f c).1),.agg (repA (Qk0 f c).2)]) [b3,b4] (.tup [.agg (fsyA f),.agg [aI 6,aI 0,aI 0,aI 0,aS ([]),aN]]) (by
  have e:Qk0 f c=_:=if_neg (by rw [q1];decide);rw [e];exact Sub.tups ⟨sR,(Qb4 _ _ _ _ _),trivial⟩))
 <| fun q1=>have q1:=notF q1;have p1:=booT q1;let J1:Jn (Unit):=⟨fun j1=>⟨[(4,.ptr 4 b3 0),(5,.ptr 5 b4 0)],[(4,.box b3 38 (fsyA f)),(5,.box b4 45 [aI 0,aI ((Qab f c.ino).kind),aI ((Qab f c.ino).links),aI (Qrh (Qab f c.ino)),aS ([]),aN])]⟩,fun _=>True⟩
 .cut J1 (.pick [0,1,3,5]<|.u 4 [b1,b5]<|
 .fork<|.alt (.u 1 [b5]<|
 .fork<|.alt (.u 1 [b5]<|
 .pick [6,7,8,9]<|.call (Qgg (Qab f c.ino))<|
 .u 3 [b3,b4]<|
 .jo J1 () [] [] sr2 bb2)
 <| .call (Qgg (Qab f c.ino))<|
 .fork<|.alt (.u 1 [b5]<|
 .pick [7,8,9]<|.u 3 [b3,b4]<|
 .jo J1 () [] [] sr2 bb2)
 <| .u 1 [b3]<|
 .pick [4,7,9]<|.u 3 [b5,b4]<|
 .jo J1 () [] [] sr2 bb2)
 <| .alt (.u 1 [b5]<|
 .fork<|.alt (.u 1 [b5]<|
 .pick [6,7,8,9]<|.call (Qgg (Qab f c.ino))<|
 .u 3 [b3,b4]<|
 .jo J1 () [] [] sr2 bb2)
 <| .call (Qgg (Qab f c.ino))<|
 .fork<|.alt (.u 1 [b5]<|
 .pick [7,8,9]<|.u 3 [b3,b4]<|
 .jo J1 () [] [] sr2 bb2)
 <| .u 1 [b3]<|
 .pick [2,7,9]<|.u 3 [b5,b4]<|
 .jo J1 () [] [] sr2 bb2)
 <| .call (Qgg (Qab f c.ino))<|
 .fork<|.alt (.u 1 [b5]<|
 .fork<|.alt (.u 1 [b5]<|
 .pick [7,8,9]<|.u 3 [b3,b4]<|
 .jo J1 () [] [] sr2 bb2)
 <| .u 1 [b3]<|
 .pick [4,7,9]<|.u 3 [b5,b4]<|
 .jo J1 () [] [] sr2 bb2)
 <| .alt (.u 1 [b5]<|
 .fork<|.alt (.u 1 [b5]<|
 .pick [7,8,9]<|.u 3 [b3,b4]<|
 .jo J1 () [] [] sr2 bb2)
 <| .u 1 [b3]<|
 .pick [2,7,9]<|.u 3 [b5,b4]<|
 .jo J1 () [] [] sr2 bb2)
 <| .u 1 [b3]<|
 .pick [2,4,7,9]<|.u 4 [b5,b5,b4]<|
 .jo J1 () [] [] sr2 bb2)
 <| fun _ _=>.f (.tup [.agg (fsyA (Qk0 f c).1),.agg (repA (Qk0 f c).2)]) [b3,b4] (.tup [.agg (fsyA f),.agg [aI 0,aI ((Qab f c.ino).kind),aI ((Qab f c.ino).links),aI (Qrh (Qab f c.ino)),aS ([]),aN]]) (by
  have e:Qk0 f c=_:=if_pos q1;rw [e];exact Sub.tups ⟨sR,(Qb4 _ _ _ _ _),trivial⟩))
theorem Zmw (f:Fsy) (c:Cal) (okf:OkF f) (okc:OkCal c) (hp:Qat f):Qag prog 261 [.agg (fsyA f),.agg [aI c.kind,aI c.ino,aI c.to,aI c.at_,aI c.many,aS c.name,aS c.name2,aS c.text]] (.tup [.agg (fsyA (Qk1 f c).1),.agg (repA (Qk1 f c).2)]):=by
 have hl:=hp.1;have hr:=Qah hp;have hcn:=okc.name;have hcn2:=okc.name2;have hct:=okc.text;exact Qac func261 (
 .new fun b1=>.new fun b2=>.new fun b3=>.new fun b4=>.u 3 [b1,b2]<|
 .call (Qp0 f c.ino 1 hp)<|
 .r 3<|.new fun b5=>.u 2 [b5]<|
 .r 2<|.br 17 ((ofE f c.ino 1) != 0) (fun q1=>have p1:=bneT q1;.u 5 [b1,b3,b4]<|
 .f (.tup [.agg (fsyA (Qk1 f c).1),.agg (repA (Qk1 f c).2)]) [b3,b4] (.tup [.agg (fsyA f),.agg [aI (ofE f c.ino 1),aI 0,aI 0,aI 0,aS ([]),aN]]) (by
  have e:Qk1 f c=_:=if_neg (bneT q1);rw [e];exact Sub.tups ⟨sR,(Qb4 _ _ _ _ _),trivial⟩))
 <| fun q1=>have p1:=bneF q1;have eo:=Zcg (show ofE f c.ino 1=0 from bneF q1);.u 6 [b5,b2,b2]<|
 .cs (args0:=[aS ((ofN f c.ino 1).text),aI c.at_,aI c.many]) (Qzz (Qab f c.ino).text c.at_ c.many (by have:=Qju hp c.ino;omega) okc.at_ okc.many) ⟨by rw [eo];exact sR,sR,sR,trivial⟩<|
 .r 5<|.u 6 [b1,b3,b4]<|
 .f (.tup [.agg (fsyA (Qk1 f c).1),.agg (repA (Qk1 f c).2)]) [b3,b4] (.tup [.agg (fsyA f),.agg [aI ((Qnx (Qab f c.ino).text c.at_ c.many).2),aI 0,aI 0,aI 0,aS ((Qnx (Qab f c.ino).text c.at_ c.many).1),aN]]) (by
  have e0:ofE f c.ino 1=0:=bneF q1;have e:Qk1 f c=_:=if_pos e0;rw [e];exact Sub.tups ⟨sR,(Qb4 _ _ _ _ _),trivial⟩))
theorem Zir (f:Fsy) (c:Cal) (okf:OkF f) (okc:OkCal c) (hp:Qat f):Qag prog 262 [.agg (fsyA f),.agg [aI c.kind,aI c.ino,aI c.to,aI c.at_,aI c.many,aS c.name,aS c.name2,aS c.text]] (.tup [.agg (fsyA (Qga f c).1),.agg (repA (Qga f c).2)]):=by
 have hl:=hp.1;have hr:=Qah hp;have hcn:=okc.name;have hcn2:=okc.name2;have hct:=okc.text;exact Qac func262 (
 .new fun b1=>.new fun b2=>.new fun b3=>.new fun b4=>.u 3 [b1,b2]<|
 .call (Qp0 f c.ino 1 hp)<|
 .r 3<|.new fun b5=>.u 2 [b5]<|
 .r 2<|.br 16 ((ofE f c.ino 1) != 0) (fun q1=>have p1:=bneT q1;.u 5 [b1,b3,b4]<|
 .f (.tup [.agg (fsyA (Qga f c).1),.agg (repA (Qga f c).2)]) [b3,b4] (.tup [.agg (fsyA f),.agg [aI (ofE f c.ino 1),aI 0,aI 0,aI 0,aS ([]),aN]]) (by
  have e:Qga f c=_:=if_neg (bneT q1);rw [e];exact Sub.tups ⟨sR,(Qb4 _ _ _ _ _),trivial⟩))
 <| fun q1=>have p1:=bneF q1;have eo:=Zcg (show ofE f c.ino 1=0 from bneF q1);.u 6 [b5,b2,b2]<|
 .cs (args0:=[aS ((ofN f c.ino 1).text),aI c.at_,aS c.text]) (Qu2 (Qab f c.ino).text c.at_ c.text (by have:=Qju hp c.ino;omega) okc.at_ hct) ⟨by rw [eo];exact sR,sR,sR,trivial⟩<|
 .u 6 [b5]<|
 let J1:Jn (Unit):=⟨fun j1=>⟨[(4,.ptr 4 b3 0),(5,.ptr 5 b4 0)],[(4,.box b3 38 [.sl 5 false ((putF f (Qky (Qab f c.ino) (Qcx (Qab f c.ino).text c.at_ c.text).1)).l.map nodA),aI ((putF f (Qky (Qab f c.ino) (Qcx (Qab f c.ino).text c.at_ c.text).1)).next)]),(5,.box b4 45 [aI ((Qcx (Qab f c.ino).text c.at_ c.text).2),aI ((c.text).length:Int),aI 0,aI 0,aS ([]),aN])]⟩,fun _=>True⟩
 .cut J1 (.pick [0,1,3,4]<|.u 4 [b1,b5]<|
 .fork<|.alt (.cs (args0:=[.agg (fsyA f),.agg [aI ((ofN f c.ino 1).ino),aI ((ofN f c.ino 1).kind),aI ((ofN f c.ino 1).links),aS ((Qcx (Qab f c.ino).text c.at_ c.text).1),.sl 2 false ((ofN f c.ino 1).l.map entA)]]) (Qe5 f (Qky (Qab f c.ino) (Qcx (Qab f c.ino).text c.at_ c.text).1) (Qdp okf hp c.ino) (by omega) hr) ⟨sR,by rw [eo];exact sR,trivial⟩<|
 .fork<|.alt (.u 1 [b2]<|
 .pick [6,7,8,9]<|.u 4 [b3,b4]<|
 .jo J1 () [] [] sr2 bb2)
 <| .u 1 [b3]<|
 .pick [5,6,7,9]<|.u 4 [b2,b4]<|
 .jo J1 () [] [] sr2 bb2)
 <| .u 1 [b2]<|
 .pick [6,7,2,8,9]<|.r 2<|.cs (args0:=[.agg (fsyA f),.agg [aI ((ofN f c.ino 1).ino),aI ((ofN f c.ino 1).kind),aI ((ofN f c.ino 1).links),aS ((Qcx (Qab f c.ino).text c.at_ c.text).1),.sl 2 false ((ofN f c.ino 1).l.map entA)]]) (Qe5 f (Qky (Qab f c.ino) (Qcx (Qab f c.ino).text c.at_ c.text).1) (Qdp okf hp c.ino) (by omega) hr) ⟨sR,by rw [eo];exact sR,trivial⟩<|
 .u 2 [b3,b4]<|
 .jo J1 () [] [] sr2 bb2)
 <| fun _ _=>.f (.tup [.agg (fsyA (Qga f c).1),.agg (repA (Qga f c).2)]) [b3,b4] (.tup [.agg [.sl 5 false ((putF f (Qky (Qab f c.ino) (Qcx (Qab f c.ino).text c.at_ c.text).1)).l.map nodA),aI ((putF f (Qky (Qab f c.ino) (Qcx (Qab f c.ino).text c.at_ c.text).1)).next)],.agg [aI ((Qcx (Qab f c.ino).text c.at_ c.text).2),aI ((c.text).length:Int),aI 0,aI 0,aS ([]),aN]]) (by
  have e0:ofE f c.ino 1=0:=bneF q1;have e:Qga f c=_:=if_pos e0;rw [e];exact Sub.tups ⟨sR,(Qb4 _ _ _ _ _),trivial⟩))
theorem dcut_o (f:Fsy) (c:Cal) (okf:OkF f) (okc:OkCal c) (hp:Qat f):Qag prog 263 [.agg (fsyA f),.agg [aI c.kind,aI c.ino,aI c.to,aI c.at_,aI c.many,aS c.name,aS c.name2,aS c.text]] (.tup [.agg (fsyA (cutO f c).1),.agg (repA (cutO f c).2)]):=by
 have hl:=hp.1;have hr:=Qah hp;have hcn:=okc.name;have hcn2:=okc.name2;have hct:=okc.text;exact Qac func263 (
 .new fun b1=>.new fun b2=>.new fun b3=>.new fun b4=>.u 3 [b1,b2]<|
 .call (Qp0 f c.ino 1 hp)<|
 .r 3<|.new fun b5=>.u 2 [b5]<|
 .r 2<|.br 16 ((ofE f c.ino 1) != 0) (fun q1=>have p1:=bneT q1;.u 5 [b1,b3,b4]<|
 .f (.tup [.agg (fsyA (cutO f c).1),.agg (repA (cutO f c).2)]) [b3,b4] (.tup [.agg (fsyA f),.agg [aI (ofE f c.ino 1),aI 0,aI 0,aI 0,aS ([]),aN]]) (by
  have e:cutO f c=_:=if_neg (bneT q1);rw [e];exact Sub.tups ⟨sR,(Qb4 _ _ _ _ _),trivial⟩))
 <| fun q1=>have p1:=bneF q1;have eo:=Zcg (show ofE f c.ino 1=0 from bneF q1);.u 4 [b5,b2]<|
 .cs (args0:=[aS ((ofN f c.ino 1).text),aI c.many]) (Ze5 (Qab f c.ino).text c.many (by have:=Qju hp c.ino;omega) okc.many) ⟨by rw [eo];exact sR,sR,trivial⟩<|
 .u 6 [b5]<|
 .u 2 [b1,b5]<|
 .cs (args0:=[.agg (fsyA f),.agg [aI ((ofN f c.ino 1).ino),aI ((ofN f c.ino 1).kind),aI ((ofN f c.ino 1).links),aS ((cutD (Qab f c.ino).text c.many).1),.sl 2 false ((ofN f c.ino 1).l.map entA)]]) (Qe5 f (Qky (Qab f c.ino) (cutD (Qab f c.ino).text c.many).1) (Qdp okf hp c.ino) (by omega) hr) ⟨sR,by rw [eo];exact sR,trivial⟩<|
 .u 4 [b3,b4]<|
 .f (.tup [.agg (fsyA (cutO f c).1),.agg (repA (cutO f c).2)]) [b3,b4] (.tup [.agg [.sl 5 false ((putF f (Qky (Qab f c.ino) (cutD (Qab f c.ino).text c.many).1)).l.map nodA),aI ((putF f (Qky (Qab f c.ino) (cutD (Qab f c.ino).text c.many).1)).next)],.agg [aI ((cutD (Qab f c.ino).text c.many).2),aI 0,aI 0,aI 0,aS ([]),aN]]) (by
  have e0:ofE f c.ino 1=0:=bneF q1;have e:cutO f c=_:=if_pos e0;rw [e];exact Sub.tups ⟨sR,(Qb4 _ _ _ _ _),trivial⟩))
end Go.Proofs.YtkhodpknpligpaaGreat
