import Derived.Test.YtahlldgocpabjaaGreatMrgX
import Derived.Test.YtahlldgocpabjaaGreatMrgA
import Derived.ArgAppend
set_option maxRecDepth 100000
set_option maxHeartbeats 8000000
set_option linter.unusedVariables false
set_option maxRecDepth 100000
namespace Go.Proofs.YtahlldgocpabjaaGreat
open Go.RowKit Copyhold
theorem Zj1:Elem Tryz.prog 198 5 (.int .u8 0) 1 1:=⟨by kernel_rfl,by kernel_rfl,rfl,by decide⟩
def Qc3 (b:UInt8):Value:=.int .u8 (b.toNat:Int)
def Brow (w:World) (base:Nat) (v:Value) (l:List UInt8):Prop:=
 (v=.slice none 0 0∧l=[])∨∃ g cap,v=.slice (some ⟨g,0,none⟩) l.length cap∧base≤g∧g<w.heap.size∧l.length≤cap∧cap≤maxLen ∧
  (∀ j,j<cap→(w.cell? ⟨g,j,none⟩).isSome=true)∧(∀ j,j<cap→w.frozen? ⟨g,j,none⟩=false)∧∀ j x,l[j]?=some x→w.cell? ⟨g,j,none⟩=some (Qc3 x)
theorem Brow.shape {w:World} {base:Nat} {v:Value} {l:List UInt8} (h:Brow w base v l):∃ A c,v=.slice A l.length c:=by
 rcases h with ⟨rfl,rfl⟩ | ⟨g,cap,rfl,_⟩
 ·exact ⟨none,0,rfl⟩
 ·exact ⟨_,cap,rfl⟩
theorem Brow.alloc {w:World} {base:Nat} {v:Value} {l:List UInt8} (h:Brow w base v l) (o:Obj):Brow (w.alloc o) base v l:=by
 rcases h with h | ⟨g,cap,rfl,hb,hg,hl,hc,h1,h2,h3⟩
 ·exact .inl h
 ·refine .inr ⟨g,cap,rfl,hb,by simp;omega,hl,hc,fun j hj=>?_,fun j hj=>?_,fun j x hx=>?_⟩
  ·rw [World.cell?_alloc_lt _ _ _ hg];exact h1 j hj
  ·rw [World.frozen?_of_block (Below.heap_alloc w o g hg)];exact h2 j hj
  ·rw [World.cell?_alloc_lt _ _ _ hg];exact h3 j x hx
theorem Brow.made (w:World) (l:List UInt8) (hl:l.length≤1048576):Brow (Lib.bytesWorld w 5 ⟨l.toArray⟩) w.heap.size (.slice (some ⟨w.heap.size,0,none⟩) l.length (grownCap w l.length 0 5)) l:=by
 have hsz:(⟨l.toArray⟩:ByteArray).size=l.length:=by simp [ByteArray.size]
 have hge:=grownCap_ge w l.length 0 5;have hcs:(Lib.bytesCells w 5 ⟨l.toArray⟩).size=grownCap w l.length 0 5:=by
  simp [Lib.bytesCells,hsz];omega
 refine .inr ⟨w.heap.size,_,rfl,Nat.le_refl _,by rw [Lib.bytesWorld_size];omega,hge,grownCap_le_maxLen w _ _ _ (by unfold maxLen;omega),fun j hj=>?_,fun j hj=>?_,fun j x hx=>?_⟩
 ·simp only [World.cell?,Lib.bytesWorld_at_new];rw [← hcs] at hj;simp [hj]
 ·simp only [World.frozen?,Lib.bytesWorld_at_new];rw [← hcs] at hj;simp;omega
 ·obtain ⟨hj,rfl⟩:=List.getElem?_eq_some_iff.1 hx;exact Za5 w _ l j hj
theorem Brow.back {w:World} {base:Nat} {v:Value} {l:List UInt8} (h:Brow w base v l):(convert 198 9 v).run Tryz.prog w=.ok (.string ⟨l.toArray⟩) w:=by
 rcases h with ⟨rfl,rfl⟩ | ⟨g,cap,rfl,hb,hg,hl,hc,h1,h2,h3⟩
 ·exact run_convert_bytes_nil w 198 5 rfl rfl 0 0 9 rfl
 ·exact run_convert_bytes_back w _ _ 5 _ _ l rfl rfl rfl fun j hj=>by
   rw [Qbq,Nat.zero_add];exact h3 j _ (List.getElem?_eq_getElem hj)
theorem Brow.store {w:World} {base g cap:Nat} {l:List UInt8} (h:Brow w base (.slice (some ⟨g,0,none⟩) l.length cap) l) (k:Nat) (x:UInt8) (hk:k<l.length) :
  base≤g∧(∃ u,w.cell? ⟨g,k,none⟩=some u)∧w.frozen? ⟨g,k,none⟩=false∧Brow (w.setCell ⟨g,k,none⟩ (Qc3 x)) base (.slice (some ⟨g,0,none⟩) l.length cap) (l.set k x):=by
 rcases h with ⟨h,rfl⟩ | ⟨g',cap',he,hb,hg,hl,hc,h1,h2,h3⟩
 ·simp at hk
 ·simp only [Value.slice.injEq,Option.some.injEq,Addr.mk.injEq,and_true,true_and] at he;obtain ⟨rfl,rfl⟩:=he;have hc0:=h3 k l[k] (List.getElem?_eq_getElem hk);refine ⟨hb,⟨_,hc0⟩,h2 k (by omega),.inr ⟨g,cap,by rw [List.length_set],hb,by simpa using hg,by rw [List.length_set];exact hl,hc,fun j hj=>?_,fun j hj=>?_,fun j y hy=>?_⟩⟩
  ·by_cases hjk:k=j
   ·subst hjk;rw [World.cell?_setCell_same _ _ _ hc0];rfl
   ·rw [World.cell?_setCell_other _ _ _ _ (by intro e;simp at e<;>exact hjk e)];exact h1 j hj
  ·have:=h2 j hj;simpa [go_sem] using this
  ·by_cases hjk:k=j
   ·subst hjk;rw [World.cell?_setCell_same _ _ _ hc0];rw [List.getElem?_set_self hk] at hy;injection hy with hy
    subst hy;rfl
   ·rw [World.cell?_setCell_other _ _ _ _ (by intro e;simp at e<;>exact hjk e)];rw [List.getElem?_set_ne hjk] at hy;exact h3 j y hy
theorem Brow.append {w:World} {base:Nat} {v:Value} {l:List UInt8} (h:Brow w base v l) (x:UInt8) (hl:l.length≤1048576) (hbase:base≤w.heap.size) :
  ∃ v' w',(Builtin.append_ #[198,198] 198 #[v,.slice (some ⟨w.heap.size,0,none⟩) 1 1]).run Tryz.prog (w.alloc (.cells #[Qc3 x] 5))=.ok v' w'∧Brow w' base v' (l++[x])∧Below base w w':=by
 obtain ⟨ht,hinf,hzs,hsz⟩:=Zj1;obtain ⟨i,hi,hz,hsize,hby⟩:=Qg1 hinf;have hnews:=cell_one_new w (Qc3 x) 5;have hbW:Below base w (w.alloc (.cells #[Qc3 x] 5)):=(Below.refl _ _).alloc hbase _;have h1c:∀ u∈[Qc3 x],u.oneCell'=true:=fun u hu=>by simp at hu;subst hu;rfl
 have hnew:∀ (W:World) (old:Nat),old<l.length+1→W.heap.size=w.heap.size+1→Below base w W→Brow (W.drew.alloc (.cells ((l.map Qc3).toArray++#[Qc3 x]++Builtin.zeroCells (Value.int .u8 0).cells (grownCap W (l.length+1) old 5-(l.length+1))) 5)) base
   (.slice (some ⟨W.heap.size,0,none⟩) (l.length+1) (grownCap W (l.length+1) old 5)) (l++[x])∧Below base w (W.drew.alloc (.cells ((l.map Qc3).toArray++#[Qc3 x]++Builtin.zeroCells (Value.int .u8 0).cells (grownCap W (l.length+1) old 5-(l.length+1))) 5)):=by
  intro W old ho hs hB;have hge:=grownCap_ge W (l.length+1) old 5;have hcm:=grownCap_le_maxLen W (l.length+1) old 5 (by unfold maxLen;omega);have hcell:=Zj0 W.drew ((l.map Qc3).toArray++#[Qc3 x]++Builtin.zeroCells (Value.int .u8 0).cells (grownCap W (l.length+1) old 5-(l.length+1))) 5;have hcsz:((l.map Qc3).toArray++#[Qc3 x]++Builtin.zeroCells (Value.int .u8 0).cells (grownCap W (l.length+1) old 5-(l.length+1))).size=grownCap W (l.length+1) old 5:=by
   simp [size_zeroCells];have:(Value.int .u8 0).cells.size=1:=rfl;rw [this];omega
  refine ⟨.inr ⟨W.heap.size,_,by rw [List.length_append];rfl,by rw [hs];omega,by simp,by rw [List.length_append];simpa using hge,hcm,fun j hj=>?_,fun j hj=>?_,fun j y hy=>?_⟩,?_⟩
  ·have:=hcell j;rw [show W.drew.heap.size=W.heap.size from rfl] at this;rw [this,Array.getElem?_eq_getElem (by rw [hcsz];exact hj)];rfl
  ·have:(W.drew.alloc (.cells ((l.map Qc3).toArray++#[Qc3 x]++Builtin.zeroCells (Value.int .u8 0).cells (grownCap W (l.length+1) old 5-(l.length+1))) 5)).heap[W.heap.size]?=_:=heap_alloc_new W.drew _;simp only [World.frozen?,this];simp
  ·have:=hcell j;rw [show W.drew.heap.size=W.heap.size from rfl] at this;rw [this];have hj:=(List.getElem?_eq_some_iff.1 hy).1;rw [List.length_append] at hj;simp at hj;have e:((l.map Qc3).toArray++#[Qc3 x])=((l++[x]).map Qc3).toArray:=by simp
   rw [e,Array.getElem?_append_left (by simp;omega),List.getElem?_toArray,List.getElem?_map,hy];rfl
  ·exact (hB.drew).alloc (by show base≤W.heap.size;omega) _
 rcases h with ⟨rfl,rfl⟩ | ⟨g,cap,rfl,hb,hg,hlc,hc,h1,h2,h3⟩
 ·have hr:=run_append_nil (P:=Tryz.prog) (w.alloc (.cells #[Qc3 x] 5)) 198 198 5 i (.int .u8 0) ht hi hz ⟨w.heap.size,0,none⟩ 1 1 [Qc3 x] (by rw [hsize];rfl) hnews (by omega) (by omega) (by rw [hby];omega);have hn:=hnew (w.alloc (.cells #[Qc3 x] 5)) 0 (by omega) (by simp) hbW;simp only [List.map_nil,List.length_nil,Nat.zero_add] at hn;exact ⟨_,_,hr,by simpa using hn.1,by simpa using hn.2⟩
 ·by_cases hroom:l.length+1≤cap
  ·have hA:=(show Brow w base (.slice (some ⟨g,0,none⟩) l.length cap) l from .inr ⟨g,cap,rfl,hb,hg,hlc,hc,h1,h2,h3⟩).alloc (.cells #[Qc3 x] 5);rcases hA with ⟨he,_⟩ | ⟨g',cap',he,hb',hg',hlc',hc',k1,k2,k3⟩
   ·simp at he
   ·simp only [Value.slice.injEq,Option.some.injEq,Addr.mk.injEq,and_true,true_and] at he;obtain ⟨rfl,rfl⟩:=he;have hr:=run_append_room_cells (P:=Tryz.prog) (w.alloc (.cells #[Qc3 x] 5)) 198 198 5 i ht hi g 0 l.length cap ⟨w.heap.size,0,none⟩ 1 1 [Qc3 x] (by rw [hsize];rfl) hnews h1c hroom
     (fun j hj=>by simp at hj;subst hj;rw [hsize];simpa using k1 l.length (by omega)) (fun j hj=>by simp at hj;subst hj;rw [hsize];simpa using k2 l.length (by omega))
    rw [hsize,Nat.mul_one,Nat.zero_add] at hr;have hset:(w.alloc (.cells #[Qc3 x] 5)).setCells g l.length [Qc3 x]=(w.alloc (.cells #[Qc3 x] 5)).setCell ⟨g,l.length,none⟩ (Qc3 x):=rfl;rw [hset] at hr;obtain ⟨u,hu⟩:=Option.isSome_iff_exists.1 (k1 l.length (by omega));refine ⟨_,_,hr,.inr ⟨g,cap,by rw [List.length_append];rfl,hb,by simpa using hg',by rw [List.length_append];exact hroom,hc,fun j hj=>?_,fun j hj=>?_,fun j y hy=>?_⟩,hbW.setCell hb _⟩
    ·by_cases hjk:l.length=j
     ·subst hjk;rw [World.cell?_setCell_same _ _ _ hu];rfl
     ·rw [World.cell?_setCell_other _ _ _ _ (by intro e;simp at e<;>exact hjk e)];exact k1 j hj
    ·have:=k2 j hj;simpa [go_sem] using this
    ·by_cases hjk:l.length=j
     ·subst hjk;rw [World.cell?_setCell_same _ _ _ hu];simp at hy;rw [hy]
     ·rw [World.cell?_setCell_other _ _ _ _ (by intro e;simp at e<;>exact hjk e)];have hj:=(List.getElem?_eq_some_iff.1 hy).1;rw [List.length_append] at hj;simp at hj;rw [List.getElem?_append_left (by omega)] at hy;exact k3 j y hy
  ·have hr:=run_append_grow (P:=Tryz.prog) (w.alloc (.cells #[Qc3 x] 5)) 198 198 5 i (.int .u8 0) ht hi hz ⟨g,0,none⟩ l.length cap (l.map Qc3) (by rw [hsize];simp)
    (fun j u hu=>by
     rw [Qbq,Nat.zero_add,World.cell?_alloc_lt _ _ _ hg];rw [List.getElem?_map] at hu;cases hlj:l[j]? with
     | none=>rw [hlj] at hu;cases hu
     | some y=>rw [hlj] at hu;injection hu with hu;rw [← hu];exact h3 j y hlj)
    ⟨w.heap.size,0,none⟩ 1 1 [Qc3 x] (by rw [hsize];rfl) hnews (by omega) (by omega) (growslice_fits (by omega) (by rw [hby];omega))
   have hn:=hnew (w.alloc (.cells #[Qc3 x] 5)) cap (by omega) (by simp) hbW;exact ⟨_,_,hr,hn.1,hn.2⟩
end Go.Proofs.YtahlldgocpabjaaGreat

set_option maxRecDepth 100000
namespace Go.Proofs.YtahlldgocpabjaaGreat
open Go.RowKit Copyhold
attribute [local go_sem] Qz7
theorem Qqb (s:List UInt8) (a m:Nat) (w:World) (hs:s.length≤1048576) (h:ofOk a m) :
  Calls Tryz.prog 116 #[.string ⟨s.toArray⟩,.int .i64 a,.int .i64 m] w fun e w'=>e=.returned (.tuple #[.string ⟨((s.drop a).take m).toArray⟩,.int .i64 0])∧Below w.heap.size w w':=by
 obtain ⟨h1,h2,h3,h4⟩:=h
 go_enter Tryz.func116,Tryz.ntmps116
 go_wp2_with fail
 go_loopw [8,9] (fun sb si wr=>∃ (k:Nat) (l:List UInt8),si=.int .i64 ((a:Int)+k)∧l=(s.drop a).take k∧l.length=k∧k≤m∧Brow wr w.heap.size sb l∧Below w.heap.size w wr) (fun _ si _=>s.length-(intOf si).toNat)
 case atStart=>exact ⟨0,[],by simp,by simp,rfl,Nat.zero_le _,.inl ⟨rfl,rfl⟩,Below.refl _ _⟩
 case round=>
  obtain ⟨k,l,rfl,hl,hlk,hk,hown,hb⟩:=hrel;have HL:=Lib.hid hl;have HLK:=Lib.hid hlk;have hll:l.length≤1048576:=by rw [hl];simp;omega
  have HO:=Lib.hid hown;obtain ⟨A,c,rfl⟩:=hown.shape;rw [hlk];clear hl hown;by_cases hlt:a+k<s.length
  ·by_cases hkm:k<m
   ·obtain ⟨v',w',hrun,hown',hb'⟩:=HO.out.append s[a+k] hll hb.size;rw [hlk] at hrun;have hnext:l++[s[a+k]]=(s.drop a).take (k+1):=by
     rw [HL.out,List.take_succ_eq_append_getElem (by simp;omega)];simp
    have HN:=Lib.hid hnext;have HO':=Lib.hid hown';have HB':=Lib.hid (hb.trans hb');have hin:(a:Int)+k<s.length:=by omega
    clear hnext hown' hb' hlk;unfold Qc3 at hrun
    go_wp2_with (at_builtin;refine Qd8 rfl _ _ _ rfl _ _ _ _ rfl rfl hrun ?_)
    go_roundw
    case rel=>exact ⟨k+1,l++[s[a+k]],by simp;omega,HN.out,by rw [List.length_append,HLK.out];rfl,by omega,HO'.out,HB'.out⟩
    case measure=>simp [intOf];omega
   ·have hfin:(s.drop a).take m=l:=by rw [HL.out,show k=m from by omega]
    have hbk:=HO.out.back;rw [hlk] at hbk;have HF:=Lib.hid hfin;clear hfin hlk
    go_wp2_with fail
    go_ret2
    exact ⟨by rw [HF.out];rfl,hb⟩
  ·have hfin:(s.drop a).take m=l:=by
    have h1:=HL.out;have h2:=HLK.out;rw [h1] at h2 ⊢;have h3:(s.drop a).length≤k:=by simp;omega
    rw [List.take_of_length_le h3,List.take_of_length_le (by omega)]
   have hbk:=HO.out.back;rw [hlk] at hbk;have HF:=Lib.hid hfin;have hd:decide ((a:Int)+k<s.length)=false:=by simp;omega
   clear hfin hlk
   go_wp2_with fail
   go_ret2
   exact ⟨by rw [HF.out];rfl,hb⟩
theorem Qon (s:List UInt8) (a m:Int) (w:World) (ha1:-9223372036854775808≤a) (ha2:a≤9223372036854775807) (hb1:-9223372036854775808≤m) (hb2:m≤9223372036854775807) (h:¬ ofOk a m) :
  Calls Tryz.prog 116 #[.string ⟨s.toArray⟩,.int .i64 a,.int .i64 m] w fun e w'=>e=.returned (.tuple #[.string ⟨#[]⟩,.int .i64 1])∧Below w.heap.size w w':=by
 unfold ofOk at h;rcases (show a<0∨0≤a∧1099511627776<a∨0≤a∧a≤1099511627776∧m<0∨0≤a∧a≤1099511627776∧0≤m∧1099511627776-a<m from by omega) with h1 | ⟨h1,h2⟩ | ⟨h1,h2,h3⟩ | ⟨h1,h2,h3,h4⟩
 all_goals
  clear h
  go_enter Tryz.func116,Tryz.ntmps116
  go_wp2_with fail
  go_ret2
  exact ⟨rfl,Below.refl _ _⟩
theorem Qzu (s:List UInt8) (a m:Int) (w:World) (hs:s.length≤1048576) (ha1:-9223372036854775808≤a) (ha2:a≤9223372036854775807) (hb1:-9223372036854775808≤m) (hb2:m≤9223372036854775807) :
  Calls Tryz.prog 116 #[.string ⟨s.toArray⟩,.int .i64 a,.int .i64 m] w fun e w'=>e=.returned (.tuple #[.string ⟨(Qer s a m).1.toArray⟩,.int .i64 (Qer s a m).2])∧Below w.heap.size w w':=by
 by_cases h:ofOk a m
 ·have hr:Qer s a m=((s.drop a.toNat).take m.toNat,0):=if_pos h;rw [hr];obtain ⟨h1,h2,_⟩:=id h;obtain ⟨a,rfl⟩:=Int.eq_ofNat_of_zero_le h1;obtain ⟨m,rfl⟩:=Int.eq_ofNat_of_zero_le h2;rw [Int.toNat_natCast,Int.toNat_natCast];exact Qqb s a m w hs h
 ·have hr:Qer s a m=([],1):=if_neg h;rw [hr];exact Qon s a m w ha1 ha2 hb1 hb2 h
end Go.Proofs.YtahlldgocpabjaaGreat

set_option linter.unusedSimpArgs false
set_option maxRecDepth 100000
namespace Go.Proofs.YtahlldgocpabjaaGreat.dataSplit
open Go.RowKit Copyhold
theorem writeD_ok (l:List UInt8) (a:Nat) (t:List UInt8) (h:a+t.length≤4096):Qbe l a t=(if t=[] then l else putD l a t,0):=by
 have hr:Qba a t.length=0:=by
  unfold Qba;rw [if_pos (by omega),if_neg (by omega)]
 unfold Qbe;rw [if_pos hr,Int.toNat_natCast]
theorem Qtd (l:List UInt8) (n i:Nat):(Qf0 l n)[i]?=if i<n then some (l.getD i 0) else none:=by
 unfold Qf0;rw [List.getElem?_append,List.length_take];by_cases h:i<n
 ·rw [if_pos h];by_cases h2:i<l.length
  ·rw [if_pos (by omega),List.getElem?_take,if_pos h];simp [List.getD,h2]
  ·rw [if_neg (by omega),List.getElem?_replicate,if_pos (by omega)];simp [List.getD,h2]
 ·rw [if_neg h,if_neg (by omega),List.getElem?_replicate,if_neg (by omega)]
theorem get_putD (l:List UInt8) (a:Nat) (t:List UInt8) (i:Nat):(putD l a t)[i]?=if i<max l.length (a+t.length) then some (if a≤i∧i<a+t.length then t.getD (i-a) 0 else l.getD i 0) else none:=by
 unfold putD;generalize hm:max l.length (a+t.length)=m;rw [List.append_assoc,List.getElem?_append,List.length_take,Qdt];by_cases h:i<a
 ·rw [if_pos (by omega),List.getElem?_take,if_pos h,Qtd,if_pos (by omega),if_pos (by omega),if_neg (by omega)]
 ·rw [if_neg (by omega),show min a m=a from by omega,List.getElem?_append];by_cases h2:i-a<t.length
  ·rw [if_pos h2,if_pos (by omega),if_pos (by omega)];simp [List.getD,h2]
  ·rw [if_neg h2,List.getElem?_drop,show a+t.length+(i-a-t.length)=i from by omega,Qtd];by_cases h3:i<m
   ·rw [if_pos h3,if_pos h3,if_neg (by omega)]
   ·rw [if_neg h3,if_neg h3]
end Go.Proofs.YtahlldgocpabjaaGreat.dataSplit

set_option maxRecDepth 100000
namespace Go.Proofs.YtahlldgocpabjaaGreat
open Go.RowKit Copyhold
attribute [local go_sem] Qz7
theorem Zbe (l:List UInt8) (n j:Nat) (h:n≤l.length+j):(l++List.replicate j 0).take n=Qf0 l n:=by
 unfold Qf0;rw [List.take_append,List.take_replicate,show min (n-l.length) j=n-l.length from by omega]
theorem Qsm (s:List UInt8) (n:Nat) (w:World) (hs:s.length≤1048576) (hn:n≤4096) :
  Calls Tryz.prog 117 #[.string ⟨s.toArray⟩,.int .i64 n] w fun e w'=>e=.returned (.tuple #[.string ⟨(Qf0 s n).toArray⟩,.int .i64 0])∧Below w.heap.size w w':=by
 have h0:(0:Int)≤(n:Int):=by omega
 go_enter Tryz.func117,Tryz.ntmps117
 go_wp2_with fail
 go_loopw [0] (fun so wr=>∃ (l:List UInt8) (j:Nat),so=.string ⟨l.toArray⟩∧l=s++List.replicate j 0∧l.length≤2097152∧Below w.heap.size w wr∧(j=0∨s.length+j≤n)) (fun so _=>n-(match so with | .string b=>b.size | _=>0))
 case atStart=>exact ⟨s,0,rfl,by simp,by omega,Below.refl _ _,.inl rfl⟩
 case round=>
  obtain ⟨l,j,rfl,hl,hll,hb,hj⟩:=hrel;have HL:=Lib.hid hl;have hlen:l.length=s.length+j:=by rw [hl];simp
  have HLEN:=Lib.hid hlen;clear hl hlen;by_cases hlt:l.length<n
  ·have hnext:l++[0]=s++List.replicate (j+1) 0:=by rw [HL.out,List.append_assoc,List.replicate_succ']
   have HN:=Lib.hid hnext;clear hnext
   go_wp2_with fail
   go_roundw
   case rel=>exact ⟨l++[0],j+1,rfl,HN.out,by rw [List.length_append];simp;omega,hb,.inr (by have:=HLEN.out;omega)⟩
   case measure=>simp [ByteArray.size];omega
  ·have hfin:l.take n=Qf0 s n:=by rw [HL.out];exact Zbe s n j (by have:=HLEN.out;omega)
   have HF:=Lib.hid hfin;have hle:(n:Int)≤(l.length:Int):=by omega
   clear hfin
   go_wp2_with fail
   go_ret2
   exact ⟨by rw [← HF.out];rfl,hb⟩
theorem Zct (s:List UInt8) (n:Int) (w:World) (hs:s.length≤1048576) (h1:-9223372036854775808≤n) (h2:n≤9223372036854775807) :
  Calls Tryz.prog 117 #[.string ⟨s.toArray⟩,.int .i64 n] w fun e w'=>e=.returned (.tuple #[.string ⟨(cutD s n).1.toArray⟩,.int .i64 (cutD s n).2])∧Below w.heap.size w w':=by
 rcases (show n<0∨0≤n∧1099511627776<n∨0≤n∧n≤1099511627776∧4096<n∨0≤n∧n≤4096 from by omega) with h | ⟨h,h'⟩ | ⟨h,h',h''⟩ | ⟨h,h'⟩
 ·have hr:Qba 0 n=1:=by unfold Qba;rw [if_neg (by omega)]
  have hc:cutD s n=(s,1):=by unfold cutD;rw [hr];rfl
  rw [hc];clear hr hc
  go_enter Tryz.func117,Tryz.ntmps117
  go_wp2_with fail
  go_ret2
  exact ⟨rfl,Below.refl _ _⟩
 ·have hr:Qba 0 n=1:=by unfold Qba;rw [if_neg (by omega)]
  have hc:cutD s n=(s,1):=by unfold cutD;rw [hr];rfl
  rw [hc];clear hr hc
  go_enter Tryz.func117,Tryz.ntmps117
  go_wp2_with fail
  go_ret2
  exact ⟨rfl,Below.refl _ _⟩
 ·have hr:Qba 0 n=5:=by unfold Qba;rw [if_pos (by omega),if_pos (by omega)]
  have hc:cutD s n=(s,5):=by unfold cutD;rw [hr];rfl
  rw [hc];clear hr hc
  go_enter Tryz.func117,Tryz.ntmps117
  go_wp2_with fail
  go_ret2
  exact ⟨rfl,Below.refl _ _⟩
 ·obtain ⟨n,rfl⟩:=Int.eq_ofNat_of_zero_le h;have hr:Qba 0 (n:Int)=0:=by unfold Qba;rw [if_pos (by omega),if_neg (by omega)]
  have hc:cutD s n=(Qf0 s n,0):=by unfold cutD;rw [if_pos hr,Int.toNat_natCast]
  rw [hc];exact Qsm s n w hs (by omega)
end Go.Proofs.YtahlldgocpabjaaGreat

set_option maxRecDepth 100000
namespace Go.Proofs.YtahlldgocpabjaaGreat
open Go.RowKit Copyhold
attribute [local go_sem] Qz7
def Qhq (L:List UInt8) (a:Nat) (t:List UInt8) (i:Nat):List UInt8:=L.take a++t.take i++L.drop (a+i)
theorem Qm4 (L:List UInt8) (a:Nat) (t:List UInt8) (i:Nat) (ha:a≤L.length) (hi:i≤t.length):(Qhq L a t i).length=max L.length (a+i):=by
 unfold Qhq;simp;omega
theorem Zc8 (L:List UInt8) (a:Nat) (t:List UInt8) (i:Nat) (ha:a≤L.length) (hi:i<t.length) (h:a+i<(Qhq L a t i).length):(Qhq L a t i).set (a+i) t[i]=Qhq L a t (i+1):=by
 rw [Qm4 L a t i ha (by omega)] at h;have hA:(L.take a++t.take i).length=a+i:=by simp;omega
 unfold Qhq;rw [List.set_append_right _ _ (by omega),hA,Nat.sub_self,List.drop_eq_getElem_cons (by omega),List.set_cons_zero,List.take_succ_eq_append_getElem hi,Nat.add_assoc,List.append_assoc,List.append_assoc,List.append_assoc,List.singleton_append]
theorem Zda (L:List UInt8) (a:Nat) (t:List UInt8) (i:Nat) (ha:a≤L.length) (hi:i<t.length) (h:¬ a+i<(Qhq L a t i).length):Qhq L a t i++[t[i]]=Qhq L a t (i+1):=by
 rw [Qm4 L a t i ha (by omega)] at h;unfold Qhq;rw [List.drop_eq_nil_of_le (by omega),List.drop_eq_nil_of_le (by omega),List.take_succ_eq_append_getElem hi];simp
theorem Zc9 (s:List UInt8) (a j:Nat) (t:List UInt8) (h:a≤s.length+j) (h':j=0∨s.length+j≤a):Qhq (s++List.replicate j 0) a t t.length=putD s a t:=by
 have hL:∀ i,(s++List.replicate j (0:UInt8))[i]?=if i<s.length+j then some (s.getD i 0) else none:=by
  intro i;rw [List.getElem?_append];by_cases h1:i<s.length
  ·rw [if_pos h1,if_pos (by omega)];simp [List.getD,h1]
  ·rw [if_neg h1,List.getElem?_replicate];by_cases h2:i<s.length+j
   ·rw [if_pos (by omega),if_pos h2];simp [List.getD,h1]
   ·rw [if_neg (by omega),if_neg h2]
 apply List.ext_getElem?;intro i;rw [dataSplit.get_putD];unfold Qhq;rw [List.append_assoc,List.getElem?_append,List.length_take,List.length_append,List.length_replicate,show min a (s.length+j)=a from by omega];by_cases hi:i<a
 ·rw [if_pos hi,List.getElem?_take,if_pos hi,hL,if_pos (by omega),if_pos (by omega),if_neg (by omega)]
 ·rw [if_neg hi,List.getElem?_append,List.length_take,Nat.min_self];by_cases h2:i-a<t.length
  ·rw [if_pos h2,if_pos (by omega),if_pos (by omega),List.take_length];simp [List.getD,h2]
  ·rw [if_neg h2,List.getElem?_drop,show a+t.length+(i-a-t.length)=i from by omega,hL];by_cases h3:i<s.length+j
   ·rw [if_pos h3,if_pos (by omega),if_neg (by omega)]
   ·rw [if_neg h3,if_neg (by omega)]
theorem Qom (s:List UInt8) (a:Nat) (t:List UInt8) (w:World) (hs:s.length≤524288) (ht:t ≠ []) (h:a+t.length≤4096) :
  Calls Tryz.prog 118 #[.string ⟨s.toArray⟩,.int .i64 a,.string ⟨t.toArray⟩] w fun e w'=>e=.returned (.tuple #[.string ⟨(putD s a t).toArray⟩,.int .i64 0])∧Below w.heap.size w w':=by
 have hte:t.isEmpty=false:=by simpa using ht
 have htl:0<t.length:=List.length_pos_iff.2 ht;have hcv:=Lib.run_convert_string_bytes (P:=Tryz.prog) w 9 198 5 ⟨s.toArray⟩ Tryz.underlying9 Tryz.underlying198 Tryz.underlying5;have hsz:(⟨s.toArray⟩:ByteArray).size=s.length:=by simp [ByteArray.size]
 rw [hsz] at hcv;have HO:=Lib.hid (Brow.made w s (by omega));have HB:=Lib.hid (Qwl w 5 ⟨s.toArray⟩);generalize Lib.bytesWorld w 5 ⟨s.toArray⟩=W0 at *;generalize grownCap w s.length 0 5=cap at *;clear ht hsz
 go_enter Tryz.func118,Tryz.ntmps118
 go_wp2_with fail
 go_loopw [8] (fun sb wr=>∃ (l:List UInt8) (j c:Nat) (A:Option Addr),sb=.slice A l.length c∧l=s++List.replicate j 0∧(j=0∨s.length+j≤a)∧Brow wr w.heap.size sb l∧Below w.heap.size w wr) (fun sb _=>a-(match sb with | .slice _ n _=>n | _=>0))
 case atStart=>exact ⟨s,0,cap,some ⟨w.heap.size,0,none⟩,rfl,by simp,.inl rfl,HO.out,HB.out⟩
 case round=>
  obtain ⟨l,j,c,A,rfl,hl,hj,hown,hb⟩:=hrel;have hlen:l.length=s.length+j:=by rw [hl];simp
  have hll:l.length≤1048576:=by omega
  have HL:=Lib.hid hl;have HLEN:=Lib.hid hlen;have HOWN:=Lib.hid hown;clear hl hlen hown;by_cases hlt:l.length<a
  ·obtain ⟨v',w',hrun,hown',hb'⟩:=HOWN.out.append 0 hll hb.size;have hnext:l++[0]=s++List.replicate (j+1) 0:=by rw [HL.out,List.append_assoc,List.replicate_succ']
   obtain ⟨A',c',rfl⟩:=hown'.shape;rw [List.length_append,List.length_singleton] at hrun hown';have HN:=Lib.hid hnext;have HO':=Lib.hid hown';have HB':=Lib.hid (hb.trans hb');clear hnext hown' hb';have hrun:Sem.run Tryz.prog (Builtin.append_ #[198,198] 198 #[.slice A l.length c,.slice (some ⟨wr.heap.size,0,none⟩) 1 1]) (wr.alloc (.cells #[.int .u8 0] 5))=.ok (.slice A' (l.length+1) c') w':=hrun
   go_wp2_with (at_builtin;refine Qd8 rfl _ _ _ rfl _ _ _ _ rfl rfl hrun ?_)
   go_roundw
   case rel=>exact ⟨l++[0],j+1,c',A',by rw [List.length_append];rfl,HN.out,.inr (by have:=HLEN.out;omega),HO'.out,HB'.out⟩
   case measure=>simp;omega
  ·have hal:a≤l.length:=by omega
   have hend:Qhq l a t t.length=putD s a t:=by rw [HL.out];exact Zc9 s a j t (by have:=HLEN.out;omega) hj
   have HEND:=Lib.hid hend;clear hend
   go_wp2_with fail
   go_loopw [8,9] (fun sb si wr=>∃ (i c:Nat) (L:List UInt8) (A:Option Addr),si=.int .i64 i∧sb=.slice A L.length c∧L=Qhq l a t i∧i≤t.length∧Brow wr w.heap.size sb L∧Below w.heap.size w wr) (fun _ si _=>t.length-(intOf si).toNat)
   case atStart=>exact ⟨0,c,l,A,rfl,rfl,by simp [Qhq],Nat.zero_le _,HOWN.out,hb⟩
   case round=>
    obtain ⟨i,c2,L,A2,rfl,rfl,hL,hi,hown2,hb2⟩:=hrel;have hLl:L.length=max l.length (a+i):=by rw [hL];exact Qm4 l a t i hal hi
    have hl2:l.length≤528384:=by have:=HLEN.out;omega
    have hLb:L.length≤1048576:=by omega
    have HL2:=Lib.hid hL;have HLL:=Lib.hid hLl;have HO2:=Lib.hid hown2;clear hL hLl hown2;by_cases hit:i<t.length
    ·have hx:∃ x,x=t[i]:=⟨_,rfl⟩
     obtain ⟨x,hx⟩:=hx;have hii:(i:Int)<(t.length:Int):=by omega
     by_cases hin:a+i<L.length
     ·have hnext:L.set (a+i) x=Qhq l a t (i+1):=by rw [HL2.out,hx];exact Zc8 l a t i hal hit (by rw [← HL2.out];exact hin)
      have hsh:∃ g,A2=some ⟨g,0,none⟩:=by
       rcases HO2.out with ⟨he,hh⟩ | ⟨g,cap',he,_⟩
       ·rw [hh] at hin;simp at hin
       ·simp only [Value.slice.injEq] at he;exact ⟨g,he.1⟩
      obtain ⟨g,rfl⟩:=hsh;obtain ⟨hbg,⟨u,hcu⟩,hfu,hst⟩:=HO2.out.store (a+i) x hin;have HN:=Lib.hid hnext;have HST:=Lib.hid hst;have HB3:=Lib.hid (hb2.setCell (p:=⟨g,a+i,none⟩) hbg (Qc3 x));have hain:(a:Int)+i<(L.length:Int):=by omega
      subst hx;clear hnext hst
      go_wp2_with fail
      go_roundw
      case rel=>exact ⟨i+1,c2,L.set (a+i) t[i],_,by go_num,by rw [List.length_set],HN.out,by omega,HST.out,HB3.out⟩
      case measure=>simp [intOf];omega
     ·obtain ⟨v',w',hrun,hown',hb'⟩:=HO2.out.append x hLb hb2.size;have hnext:L++[x]=Qhq l a t (i+1):=by rw [HL2.out,hx];exact Zda l a t i hal hit (by rw [← HL2.out];exact hin)
      obtain ⟨A',c',rfl⟩:=hown'.shape;rw [List.length_append,List.length_singleton] at hrun hown';have HN:=Lib.hid hnext;have HO':=Lib.hid hown';have HB':=Lib.hid (hb2.trans hb');have hain:¬ (a:Int)+i<(L.length:Int):=by omega
      clear hnext hown' hb';rw [hx] at hrun;unfold Qc3 at hrun
      go_wp2_with (at_builtin;refine Qd8 rfl _ _ _ rfl _ _ _ _ rfl rfl hrun ?_)
      go_roundw
      case rel=>exact ⟨i+1,c',L++[x],A',by go_num,by rw [List.length_append];rfl,HN.out,by omega,HO'.out,HB'.out⟩
      case measure=>simp [intOf];omega
    ·have hfin:L=putD s a t:=by rw [HL2.out,show i=t.length from by omega,HEND.out]
     have hbk:=HO2.out.back;have HF:=Lib.hid hfin;clear hfin
     go_wp2_with fail
     go_ret2
     exact ⟨by rw [← HF.out];rfl,hb2⟩
theorem Qvb (s:List UInt8) (a:Int) (t:List UInt8) (w:World) (hs:s.length≤524288) (ht:t.length≤524288) (h1:-9223372036854775808≤a) (h2:a≤9223372036854775807) :
  Calls Tryz.prog 118 #[.string ⟨s.toArray⟩,.int .i64 a,.string ⟨t.toArray⟩] w fun e w'=>e=.returned (.tuple #[.string ⟨(Qbe s a t).1.toArray⟩,.int .i64 (Qbe s a t).2])∧Below w.heap.size w w':=by
 rcases (show a<0∨0≤a∧1099511627776-(t.length:Int)<a∨0≤a∧a≤1099511627776-(t.length:Int)∧4096<a+t.length∨0≤a∧a+t.length≤4096 from by omega) with h | ⟨h,h'⟩ | ⟨h,h',h''⟩ | ⟨h,h'⟩
 ·have hr:Qba a t.length=1:=by unfold Qba;rw [if_neg (by omega)]
  have hc:Qbe s a t=(s,1):=by unfold Qbe;rw [hr];rfl
  rw [hc];clear hr hc
  go_enter Tryz.func118,Tryz.ntmps118
  go_wp2_with fail
  go_ret2
  exact ⟨rfl,Below.refl _ _⟩
 ·have hr:Qba a t.length=1:=by unfold Qba;rw [if_neg (by omega)]
  have hc:Qbe s a t=(s,1):=by unfold Qbe;rw [hr];rfl
  rw [hc];clear hr hc
  go_enter Tryz.func118,Tryz.ntmps118
  go_wp2_with fail
  go_ret2
  exact ⟨rfl,Below.refl _ _⟩
 ·have hr:Qba a t.length=5:=by unfold Qba;rw [if_pos (by omega),if_pos (by omega)]
  have hc:Qbe s a t=(s,5):=by unfold Qbe;rw [hr];rfl
  rw [hc];clear hr hc
  go_enter Tryz.func118,Tryz.ntmps118
  go_wp2_with fail
  go_ret2
  exact ⟨rfl,Below.refl _ _⟩
 ·obtain ⟨a,rfl⟩:=Int.eq_ofNat_of_zero_le h;rw [dataSplit.writeD_ok s a t (by omega)];by_cases h0:t=[]
  ·subst h0;rw [if_pos rfl];simp only;have hlen:(a:Int)≤4096:=by simpa using h'
   clear h'
   go_enter Tryz.func118,Tryz.ntmps118
   go_wp2_with fail
   go_ret2
   exact ⟨rfl,Below.refl _ _⟩
  ·rw [if_neg h0];exact Qom s a t w hs h0 (by omega)
end Go.Proofs.YtahlldgocpabjaaGreat

namespace Go.Proofs.YtahlldgocpabjaaGreat
open Go Go.RowKit Copyhold Go.Proofs.Tryz
theorem Qvg (s:Txt) (a b:Int) (hs:s.length≤1000000) (ha:I64 a) (hb:I64 b):Qah prog 116 [aS s,aI a,aI b] (.tup [aS (Qer s a b).1,aI (Qer s a b).2]):=Qcl (Qgs _ _) fun D w vs h=>by
 obtain ⟨u,v,t,rfl,hu,hv,ht⟩:=ra3 h;cases hu;cases hv;cases ht;exact Qzu s a b w (by omega) ha.1 ha.2 hb.1 hb.2
theorem Qso (s:Txt) (a:Int) (t:Txt) (hs:s.length≤500000) (ha:I64 a) (ht:t.length≤500000):Qah prog 118 [aS s,aI a,aS t] (.tup [aS (Qbe s a t).1,aI (Qbe s a t).2]):=Qcl (Qgs _ _) fun D w vs h=>by
 obtain ⟨u,v,x,rfl,hu,hv,hx⟩:=ra3 h;cases hu;cases hv;cases hx;exact Qvb s a t w (by omega) (by omega) ha.1 ha.2
theorem Qo8 (s:Txt) (n:Int) (hs:s.length≤1000000) (hn:I64 n):Qah prog 117 [aS s,aI n] (.tup [aS (cutD s n).1,aI (cutD s n).2]):=Qcl (Qgs _ _) fun D w vs h=>by
 obtain ⟨u,v,rfl,hu,hv⟩:=Qdc.two h;cases hu;cases hv;exact Zct s n w (by omega) hn.1 hn.2
theorem Qf9 (n:Nod):Qah prog 69 [.agg (nodA n)] (aI (Qhk n)):=by
 exact Qac func69 (
 .new fun b1=>.r 1<|.u 3 [b1]<|
 .be 5 n.kind 2 (fun p1=>.u 3 [b1]<|
 .lm 8 n.l entA<|.r 1<|.f (aI (Qhk n)) [] (aI (n.l.length:Int)) (by exact Sub.of_eq (congrArg aI (by unfold Qhk;simp_all))))
 <| fun p1=>.u 4 [b1]<|
 .f (aI (Qhk n)) [] (aI ((n.text).length:Int)) (by exact Sub.of_eq (congrArg aI (by unfold Qhk;simp_all))))
end Go.Proofs.YtahlldgocpabjaaGreat
