import Derived.Test.YtahlldgocpabjaaGreatMrgAK
import Derived.Scope
import Derived.Test.YtahlldgocpabjaaGreatMrgAG
import Derived.Test.YtahlldgocpabjaaGreatMrgAD
import Derived.Test.YtahlldgocpabjaaGreatMrgAJ
import Derived.Test.YtahlldgocpabjaaGreatMrgAF
set_option maxRecDepth 100000
set_option maxHeartbeats 8000000
set_option linter.unusedVariables false
set_option linter.unusedSimpArgs false
namespace Go.Proofs.YtahlldgocpabjaaGreat
open Go Go.RowKit Go.Shelf Copyhold
attribute [local go_sem] Oper.semAt_some
theorem Ziq (n:Nat) (hn:3≤n) (q0 q1 q2:Value) (st n1 n2:Int) (s1 s2:Value) (A:Option Addr) (c:Nat) (L R:List Int) (hlL:L.length≤140737488351232) (hlR:R.length≤1000000) (w:World) (D:Nat→Prop) (hD:∀ b,D b→b<w.heap.size)
  (hL:Ra D w (.sl 1 false (L.map intA)) (.slice A L.length c))
  (hS:∀ W,Below w.heap.size w W→CallsIn Fence.wide (n-1) Tryz.prog 62 #[.agg #[q0,q1,q2],.int .i64 st] W fun e W'=>∃ A' c',∃ D':Nat→Prop,e=.returned (.slice A' R.length c')∧Below W.heap.size W W'∧Ra D' W' (.sl 1 false (R.map intA)) (.slice A' R.length c')∧∀ b,D' b→b<W'.heap.size) :
  CallsIn Fence.wide n Tryz.prog 36 #[.agg #[q0,q1,q2],.agg #[.int .i64 st,s1,.int .i64 n1,s2,.int .i64 n2,.slice A L.length c]] w fun e W'=>e=.returned (.bool (decide (∃ x∈L,x∈R)))∧Below w.heap.size w W':=by
 have h1:1≤n:=by omega
 have HL:=Lib.hid hL;have HS:=Lib.hid hS;have HD:=Lib.hid hD;clear hL hS hD;refine callsIn_of_wp_marks Tryz.func36 rfl trivial ?_ rfl;simp only [Tryz.ntmps36,List.size_toArray,List.length_cons,List.length_nil,Nat.reduceAdd,Nat.reduceSub,Array.replicate_succ,Array.replicate_zero,List.push_toArray,List.append_toArray,List.nil_append,List.cons_append]
 gi_wp2
 refine wpIn_wide.2 (wp_scope_straight ((wpIn_wide (n:=n)).1 ?_))
 gi_wp2_with (first
  | (
    refine ⟨trivial,?_⟩;gi_at_call 62;refine (HS.out _ (((Below.refl _ w).alloc (Nat.le_refl _) _).alloc (by simp) _)).mono ?_;rintro e w1 ⟨A',c',D',rfl,hb1,hR,hD'⟩;have hsz:w.heap.size+1+1≤w1.heap.size:=by have:=hb1.size;simpa using this
    have hlt3:w.heap.size+1<w1.heap.size:=by omega
    have hblk:w1.heap[w.heap.size+1]?=some (.cells #[.int .i64 st,s1,.int .i64 n1,s2,.int .i64 n2,.slice A L.length c] 31):=by
     rw [hb1.block (w.heap.size+1) (by simp)];have:=heap_alloc_new (w.alloc (.cells #[q0,q1,q2] 25)) (.cells #[.int .i64 st,s1,.int .i64 n1,s2,.int .i64 n2,.slice A L.length c] 31);simpa using this
    have e0:w1.cell? ⟨w.heap.size+1,0,none⟩=some (.int .i64 st):=by simp [World.cell?,hblk]
    have e1:w1.cell? ⟨w.heap.size+1,1,none⟩=some s1:=by simp [World.cell?,hblk]
    have e2:w1.cell? ⟨w.heap.size+1,2,none⟩=some (.int .i64 n1):=by simp [World.cell?,hblk]
    have e3:w1.cell? ⟨w.heap.size+1,3,none⟩=some s2:=by simp [World.cell?,hblk]
    have e4:w1.cell? ⟨w.heap.size+1,4,none⟩=some (.int .i64 n2):=by simp [World.cell?,hblk]
    have e5:w1.cell? ⟨w.heap.size+1,5,none⟩=some (.slice A L.length c):=by simp [World.cell?,hblk]
    have HB1:=Lib.hid hb1;have HR:=Lib.hid (And.intro hR hD');clear hb1 hR hD' hblk)
  | (refine ⟨trivial,?_⟩;gi_at_call 45;refine (Zcp (n-1) st n1 n2 s1 s2 (.slice A L.length c) _).mono ?_;rintro e w' ⟨rfl,rfl⟩))
 rename_i K0 hK0;refine wpIn_label (hK0 _ _ ?_);clear hK0 K0;obtain ⟨W3,hW3⟩:∃ W,W=(w1.alloc (.cells #[.slice A' R.length c'] 29)).alloc (.cells #[.bool false] 4):=⟨_,rfl⟩
 have hbW:Below w1.heap.size w1 W3:=by rw [hW3];exact ((Below.refl _ w1).alloc (Nat.le_refl _) _).alloc (by simp) _
 have hs3:W3.heap.size=w1.heap.size+1+1:=by rw [hW3];simp
 have bS:Boxed W3 w1.heap.size 29 (.slice A' R.length c'):=by rw [hW3];exact (Boxed.new w1 _ _).alloc _
 have bF:Boxed W3 (w1.heap.size+1) 4 (.bool false):=by
  rw [hW3];have:=Boxed.new (w1.alloc (.cells #[.slice A' R.length c'] 29)) 4 (.bool false);simpa using this
 have f0:=(hbW.cell (p:=⟨w.heap.size+1,0,none⟩) hlt3).trans e0;have f1:=(hbW.cell (p:=⟨w.heap.size+1,1,none⟩) hlt3).trans e1;have f2:=(hbW.cell (p:=⟨w.heap.size+1,2,none⟩) hlt3).trans e2;have f3:=(hbW.cell (p:=⟨w.heap.size+1,3,none⟩) hlt3).trans e3;have f4:=(hbW.cell (p:=⟨w.heap.size+1,4,none⟩) hlt3).trans e4;have f5:=(hbW.cell (p:=⟨w.heap.size+1,5,none⟩) hlt3).trans e5;have hB13:Below w.heap.size w w1:=(((Below.refl w.heap.size w).alloc (Nat.le_refl _) _).alloc (by simp) _).trans (HB1.out.mono (by simp;omega));have hB0:Below w.heap.size w W3:=hB13.trans (hbW.mono (by omega));have hR3:Ra D' W3 (.sl 1 false (R.map intA)) (.slice A' R.length c'):=HR.out.1.frame (fun _ h=>h) hbW.size (fun b hb hl=>hbW.block b hl);have hL3:Ra D W3 (.sl 1 false (L.map intA)) (.slice A L.length c):=HL.out.frame (fun _ h=>h) hB0.size (fun b hb hl=>hB0.block b hl);rw [← hW3];clear hW3;have HBX:=Lib.hid (And.intro bS (And.intro bF (And.intro hB0 (And.intro hR3 hL3))));clear e0 e1 e2 e3 e4 e5 bS bF hB0 hR3 hL3 hbW hB13
 gi_wp2_with (refine ⟨trivial,?_⟩;gi_at_call 45;refine (Zcp (n-1) st n1 n2 s1 s2 (.slice A L.length c) _).mono ?_;rintro e w' ⟨rfl,rfl⟩)
 rename_i K0 hK0;have HK0:=Lib.hid hK0;clear hK0 hsz hlt3 f0 f1 f2 f3 f4;obtain ⟨bS,bF,hB0,hR3,hL3⟩:=HBX.out;obtain ⟨W4,hW4⟩:∃ W,W=W3.alloc (.cells #[.int .i64 st,s1,.int .i64 n1,s2,.int .i64 n2,.slice A L.length c] 31):=⟨_,rfl⟩
 have hb34:Below W3.heap.size W3 W4:=by rw [hW4];exact (Below.refl _ W3).alloc (Nat.le_refl _) _
 have hs4:W4.heap.size=w1.heap.size+1+1+1:=by rw [hW4];simp [hs3]
 have bS4:Boxed W4 w1.heap.size 29 (.slice A' R.length c'):=by rw [hW4];exact bS.alloc _
 have bF4:Boxed W4 (w1.heap.size+1) 4 (.bool false):=by rw [hW4];exact bF.alloc _
 have hR4:Ra D' W4 (.sl 1 false (R.map intA)) (.slice A' R.length c'):=hR3.frame (fun _ h=>h) hb34.size (fun b hb hl=>hb34.block b hl);have hL4:Ra D W4 (.sl 1 false (L.map intA)) (.slice A L.length c):=hL3.frame (fun _ h=>h) hb34.size (fun b hb hl=>hb34.block b hl);have hc5:W4.cell? ⟨w1.heap.size+1+1,5,none⟩=some (.slice A L.length c):=by
  rw [hW4];have:=heap_alloc_new W3 (.cells #[.int .i64 st,s1,.int .i64 n1,s2,.int .i64 n2,.slice A L.length c] 31);rw [hs3] at this;simp [World.cell?,this]
 have hB04:Below w.heap.size w W4:=hB0.trans (hb34.mono (by have:=hB0.size;omega));have hww1:w.heap.size≤w1.heap.size:=by have:=HB1.out.size;simp at this;omega
 have hDn:∀ b,D b→b<w1.heap.size+1:=fun b hb=>by have:=HD.out b hb;omega
 have hDn':∀ b,D' b→b<w1.heap.size+1:=fun b hb=>by have:=HR.out.2 b hb;omega
 rw [← hW4];clear hW4 bS bF hB0 hR3 hL3 HBX hb34 f5 hs3 HL HS HR HB1 HD;refine wpIn_rangeFunc_ownG rfl h1 (gf:=83) (lb:=#[.pointer (some ⟨w1.heap.size+1+1,0,none⟩)]) rfl trivial (enters_of Tryz.func83 (by kernel_rfl) rfl)
  (Qr4 (n-1) (by omega) (w1.heap.size+1+1) (w1.heap.size+1) c A L hlL D hDn W4 (by omega) (by omega) hc5 hL4) belowK_t (belowK_b (by omega)) (Below.refl _ _) (fun _=>rfl)
  (fun (pre:List Int) W=>(Boxed W (w1.heap.size+1) 4 (.bool false)∧(∀ x∈pre,x ∉ R))∧Below (w1.heap.size+1) W4 W)
  (fun c (pre:List Int) W=>(c=.exit 0∧(∃ x∈pre,x∈R)∧Boxed W (w1.heap.size+1) 4 (.bool true))∧Below (w1.heap.size+1) W4 W)
  (OwnFrom.and (Own.from (fun s X Y row hs hg hr=>⟨boxed_own (w1.heap.size+1) 4 (fun (_:List Int)=>.bool false) s X Y row hs.1 hg hr,hs.2⟩) _) (ownFrom_below (by omega) (by omega)))
  (fun c=>OwnFrom.and (Own.from (fun s X Y row hs hg hr=>⟨hs.1,hs.2.1,boxed_own (w1.heap.size+1) 4 (fun (_:List Int)=>.bool true) s X Y row hs.2.2 hg hr⟩) _) (ownFrom_below (by omega) (by omega)))
  ⟨⟨bF4,by simp⟩,Below.refl _ _⟩
  (fun (x:Int)=>{ tmps:=#[.agg #[q0,q1,q2],.agg #[.int .i64 st,s1,.int .i64 n1,s2,.int .i64 n2,.slice A L.length c],.pointer (some ⟨w.heap.size,0,none⟩),.pointer (some ⟨w.heap.size+1,0,none⟩),.bool false,.pointer (some ⟨w1.heap.size,0,none⟩),.pointer (some ⟨w1.heap.size+1,0,none⟩),.int .i64 x,undef,undef,.agg #[q0,q1,q2],.pointer (some ⟨w.heap.size+1,0,none⟩),.int .i64 st,.slice A' R.length c',.agg #[.int .i64 st,s1,.int .i64 n1,s2,.int .i64 n2,.slice A L.length c],.func (.func 83) #[] #[.pointer (some ⟨w1.heap.size+1+1,0,none⟩)],.int .i64 x,undef,undef,undef,undef,undef,undef,undef,undef,undef,undef,undef],defers:=[] }) ?assign ?body ?done ?stop
 case assign=>
  intro l x W K hK
  gi_wp2
  exact hK
 case body=>
  rintro l pre x W ⟨⟨hF,hall⟩,hB⟩ hlt;have cS:=(hB.cell (p:=⟨w1.heap.size,0,none⟩) (Nat.lt_succ_self _)).trans bS4.cell;have cF:=hF.cell;have fF:=hF.frozen;have hRW:Ra D' W (.sl 1 false (R.map intA)) (.slice A' R.length c'):=hR4.frame (fun _ h=>h) hB.size (fun b hb hl=>hB.block b (hDn' b hb));have HRW:=Lib.hid hRW;have HKK:=Lib.hid HK0;clear hRW hR4 hL4 hc5 hB04 bS4 bF4 HK0
  gi_wp2
  gi_loopw [19] (fun i wr=>∃ k:Nat,k≤R.length∧i=.int .i64 k∧(∀ y∈R.take k,y ≠ x)∧wr=W)
   (fun i _=>R.length-(intOf i).toNat)
  case atStart=>exact ⟨0,Nat.zero_le _,rfl,by simp,rfl⟩
  case round=>
   obtain ⟨k,hk,rfl,hne,rfl⟩:=hrel;by_cases hlt2:k<R.length
   ·obtain ⟨b,off,hA,hbk,_,hc1⟩:=Qsd HRW.out hlt2;subst hA;have hst:R.take (k+1)=R.take k++[R[k]]:=List.take_succ_eq_append_getElem hlt2;have HST:=Lib.hid hst;have HM:Hid (R[k]∈R):=Lib.hid (List.getElem_mem hlt2);clear hst;generalize R[k]=y at *;by_cases hxy:y=x
    ·subst hxy
     gi_wp2
     exact ⟨(KeepsOthers.setCell wr ⟨w1.heap.size+1,0,none⟩ (.bool true)).from _,⟨rfl,⟨y,by simp,HM.out⟩,hF.set _⟩,hB.setCell (p:=⟨w1.heap.size+1,0,none⟩) (Nat.le_refl _) _⟩
    ·gi_wp2
     go_roundw
     case rel=>exact ⟨k+1,by omega,by go_num,by rw [HST.out];intro z hz;rcases List.mem_append.1 hz with hz | hz;exact hne z hz;rw [List.mem_singleton.1 hz];exact hxy,trivial⟩
     case measure=>simp [intOf];omega
   ·obtain rfl:k=R.length:=by omega
    gi_wp2
    exact ⟨KeepsFrom.refl _ _,Below.refl _ _,⟨hF,fun z hz=>(List.mem_append.1 hz).elim (hall z) (fun h hR=>by rw [List.mem_singleton.1 h] at hR;exact hne x (by rw [List.take_length];exact hR) rfl)⟩,hB⟩
 case done=>
  rintro D1 ys W hD1 rfl ⟨⟨hF,hall⟩,hB⟩ hK;have cF:=hF.cell;have hcc:=cell_kept cF (grownBy_putObj' _ D1 (.deferred none)) (fun r e=>by cases e;exact ⟨_,hK,rfl⟩)
  gi_wp2
  refine HK0.out _ _ ?_
  gi_wp2
  refine ⟨by simp,.inl ⟨_,_,rfl,run_takeDeferred hK,?_⟩⟩;refine ⟨_,results_tmp rfl _ _ _,?_,(hB04.trans (hB.mono (by omega))).trans (belowK_b (w:=w) (Nat.le_refl _) W D1 _ _ (by omega) hK rfl rfl)⟩;have hh:(∃ x,x∈ys∧x∈R)=False:=by simp only [eq_iff_iff,iff_false];rintro ⟨x,hx,hr⟩;exact hall x hx hr
  simp [hh]
 case stop=>
  rintro D1 c pre W hD1 hpre ⟨⟨rfl,⟨x,hxm,hx⟩,hF⟩,hB⟩ hK;have cF:=hF.cell;have hcc:=cell_kept cF (grownBy_putObj' _ D1 (.deferred none)) (fun r e=>by cases e;exact ⟨_,hK,rfl⟩)
  gi_wp2
  refine HK0.out _ _ ?_
  gi_wp2
  refine ⟨by simp,.inl ⟨_,_,rfl,run_takeDeferred hK,?_⟩⟩;refine ⟨_,results_tmp rfl _ _ _,?_,(hB04.trans (hB.mono (by omega))).trans (belowK_b (w:=w) (Nat.le_refl _) W D1 _ _ (by omega) hK rfl rfl)⟩;have hh:(∃ x,x∈L∧x∈R)=True:=eq_true ⟨x,hpre.subset hxm,hx⟩;simp [hh]
end Go.Proofs.YtahlldgocpabjaaGreat

namespace Go.Proofs.YtahlldgocpabjaaGreat
open Go Go.RowKit Copyhold Go.Proofs.Tryz
theorem Zbn {D:Nat→Prop} {w:World} {cs:List AV} {v:Value} (h:Ra D w (.agg cs) v):∃ vs:Array Value,v=.agg vs∧cs.length=vs.size∧∀ (j:Nat) (x:AV) (u:Value),cs[j]?=some x→vs[j]?=some u→Ra D w x u:=by
 cases h with
 | agg cs vs h1 h2 h3=>exact ⟨vs,rfl,h1,h3⟩
theorem Qpt {D:Nat→Prop} {w:World} {L:List Int} {t:Bool} {v:Value} (h:Ra D w (.sl 1 t (L.map intA)) v):∃ A c,v=.slice A L.length c:=by
 generalize hx:(AV.sl 1 t (L.map intA))=x at h;cases h<;>cases hx;exact ⟨_,_,by rw [List.length_map]⟩
theorem Qif {D:Nat→Prop} {w:World} {u v:Value} (h:Ra D w (.val u) v):v=u:=by
 cases h;rfl
theorem arr2 {vs:Array Value} (h:2=vs.size):∃ a b,vs=#[a,b]:=by
 rcases vs with ⟨l⟩
 match l,h with
 | [a,b],_=>exact ⟨a,b,rfl⟩
theorem arr3 {vs:Array Value} (h:3=vs.size):∃ a b c,vs=#[a,b,c]:=by
 rcases vs with ⟨l⟩
 match l,h with
 | [a,b,c],_=>exact ⟨a,b,c,rfl⟩
theorem arr6 {vs:Array Value} (h:6=vs.size):∃ a b c d e f,vs=#[a,b,c,d,e,f]:=by
 rcases vs with ⟨l⟩
 match l,h with
 | [a,b,c,d,e,f],_=>exact ⟨a,b,c,d,e,f,rfl⟩
theorem Qpa (s:Sto) (t:Txn) (oks:OkS s) (hf:s.l.length≤100000) (okt:OkT t):Qaf prog 36 [.agg (stoA s),.agg (txnA t)] (aB (dP (Qk7 s t))):=by
 intro D w vs hD hvs;obtain ⟨hlen,hv⟩:=hvs;obtain ⟨v0,v1,rfl⟩:=arr2 hlen;have r0:=hv 0 _ v0 rfl rfl;obtain ⟨vs1,rfl,hl1,h1⟩:=Zbn (hv 1 _ v1 rfl rfl);obtain ⟨vs0,rfl,hl0,h0⟩:=Zbn r0;obtain ⟨q0,q1,q2,rfl⟩:=arr3 hl0;obtain ⟨a0,a1,a2,a3,a4,a5,rfl⟩:=arr6 hl1;obtain rfl:=Qif (h1 0 _ a0 rfl rfl);obtain rfl:=Qif (h1 2 _ a2 rfl rfl);obtain rfl:=Qif (h1 4 _ a4 rfl rfl);have r5:=h1 5 _ a5 rfl rfl;obtain ⟨A,c,rfl⟩:=Qpt r5;have hbl:=okt.len;have hsl:=Zak s t.stamp;refine (callsIn_wide (n:=3)).1 ((Ziq 3 (Nat.le_refl _) q0 q1 q2 t.stamp t.was.next t.now.next a1 a3 A c t.looks (Qdc s t.stamp) (by omega) (by omega) w D hD r5 ?_).mono ?_)
 ·intro W hW;refine (callsIn_wide.2 (Qx4 s t.stamp oks hf D W #[.agg #[q0,q1,q2],.int .i64 t.stamp] (fun b hb=>Nat.lt_of_lt_of_le (hD b hb) hW.size) ⟨rfl,fun j x v hj hvj=>?_⟩)).mono ?_
  ·match j,hj,hvj with
   | 0,hj,hvj=>cases hj;cases hvj;exact r0.frame (fun _ h=>h) hW.size (fun b hb hl=>hW.block b hl)
   | 1,hj,hvj=>cases hj;cases hvj;exact .val _
  ·rintro e W' ⟨v,D',rfl,hb,_,hD',hr⟩;obtain ⟨A',c',rfl⟩:=Qpt hr;exact ⟨A',c',D',rfl,hb,hr,fun b hb=>(hD' b hb).1⟩
 ·rintro e w' ⟨rfl,hb⟩;refine ⟨_,D,rfl,hb,fun _ h=>h,fun b h=>⟨Nat.lt_of_lt_of_le (hD b h) hb.size,.inl h⟩,?_⟩;have e:decide (∃ x∈t.looks,x∈Qdc s t.stamp)=dP (Qk7 s t):=by
   by_cases h:∃ x∈t.looks,x∈Qdc s t.stamp
   ·obtain ⟨x,h1,h2⟩:=h;rw [Qas.2 ⟨x,h2,h1⟩];exact decide_eq_true ⟨x,h1,h2⟩
   ·rw [decide_eq_false h];exact (Qab.2 (fun ⟨x,h2,h1⟩=>h ⟨x,h1,h2⟩)).symm
  rw [e];exact .val _
structure MidS (s:Sto):Prop where
 ok:OkS s
 l:s.l.length≤1000
 nexts:s.nexts.length≤1000
 rows:∀ c∈s.l,c.l.length≤1000
 stamp:s.stamp<1152921504606846977
noncomputable def Qch (s:Sto) (t:Txn):Sto × Int:=
 if dP (t.was=t.now)=true then (s,0) else if dP (Qk7 s t)=true then (s,15) else (Qii s (Qb8 t.was t.now) t.now.next,0)
theorem Qvg {s:Sto} {t:Txn} (h:dP (t.was=t.now)=true):Qch s t=(s,0):=by unfold Qch;rw [if_pos h]
theorem Qk6 {s:Sto} {t:Txn} (h:dP (t.was=t.now)=false) (h2:dP (Qk7 s t)=true):Qch s t=(s,15):=by unfold Qch;rw [if_neg (by rw [h];decide),if_pos h2]
theorem Qni {s:Sto} {t:Txn} (h:dP (t.was=t.now)=false) (h2:dP (Qk7 s t)=false):Qch s t=(Qii s (Qb8 t.was t.now) t.now.next,0):=by unfold Qch;rw [if_neg (by rw [h];decide),if_neg (by rw [h2];decide)]
theorem Qnh (s:Sto) (t:Txn) (ms:MidS s) (okt:OkT t) (hw:Qam t.was) (hn:Qam t.now):Qaf prog 30 [.agg (stoA s),.agg (txnA t)] (.tup [.agg (stoA (Qch s t).1),aI (Qch s t).2]):=by
 exact Qac func30 (
 .new fun b1=>.new fun b2=>.new fun b3=>.r 1<|.u 1 [b2]<|
 .call (Qm4 t okt)<|
 .br 7 (dP (t.was=t.now)) (fun q1=>have p1:=booT q1;.u 3 [b1,b3]<|
 .f (.tup [.agg (stoA (Qch s t).1),aI (Qch s t).2]) [b3] (.tup [.agg (stoA s),aI 0]) (by
  rw [Qvg q1];exact sR))
 <| fun q1=>have p1:=booF q1;.u 2 [b1,b2]<|
 .call (Qpa s t ms.ok (by have:=ms.l;omega) okt)<|
 .br 11 (dP (Qk7 s t)) (fun q2=>have p2:=booT q2;.u 3 [b1,b3]<|
 .f (.tup [.agg (stoA (Qch s t).1),aI (Qch s t).2]) [b3] (.tup [.agg (stoA s),aI 15]) (by
  rw [Qk6 q1 q2];exact sR))
 <| fun q2=>have p2:=booF q2;.ord [0,1,2,3,4,6,7,8,5,9,10,11]<|.u 8 [b1,b2,b2,b2]<|
 .call (Qp0 t.was t.now okt.was okt.now (by have:=hw.1;omega) (by have:=hn.1;omega) (Qad hw) (Qad hn))<|
 .call (Qse s (Qb8 t.was t.now) t.now.next ms.ok ms.l (by have:=Qnm t.was t.now;have:=hw.1;have:=hn.1;omega) ms.nexts ms.rows ms.stamp)<|
 .u 2 [b3]<|
 .f (.tup [.agg (stoA (Qch s t).1),aI (Qch s t).2]) [b3] (.tup [.agg [.sl 2 false ((Qii s (Qb8 t.was t.now) t.now.next).l.map chnA),.sl 2 false ((Qii s (Qb8 t.was t.now) t.now.next).nexts.map cntA),aI ((Qii s (Qb8 t.was t.now) t.now.next).stamp)],aI 0]) (by
  rw [Qni q1 q2];exact sR))
noncomputable def Qa7:Txn→List Cal→Txn
 | t,[]=>t
 | t,c :: r=>Qa7 (Qdt t c) r
theorem Qn9:∀ (a b:List Cal) (t:Txn),Qa7 t (a++b)=Qa7 (Qa7 t a) b
 | [],_,_=>rfl
 | c :: r,b,t=>Qn9 r b (Qdt t c)
theorem Qxx {t:Txn} {l:List Cal} {k:Nat} {x:Cal} (h:l[k]?=some x):Qa7 t (l.take (k+1))=Qdt (Qa7 t (l.take k)) x:=by
 rw [Qak h,Qn9];rfl
theorem Qiu:∀ (l:List Cal) (t:Txn),(Qa7 t l).now=plF t.now l
 | [],_=>rfl
 | c :: r,t=>Qiu r (Qdt t c)
theorem Ql3:∀ (l:List Cal) (t:Txn),(Qa7 t l).was=t.was
 | [],_=>rfl
 | c :: r,t=>Ql3 r (Qdt t c)
theorem Ql4:∀ (l:List Cal) (t:Txn),(Qa7 t l).stamp=t.stamp
 | [],_=>rfl
 | c :: r,t=>Ql4 r (Qdt t c)
theorem Qri:∀ (l:List Cal) (t:Txn),(Qa7 t l).looks.length≤t.looks.length+7*l.length
 | [],_=>by show _≤_;simp [Qa7]
 | c :: r,t=>by
  have h1:=Qri r (Qdt t c);have h2:=Qiv t c;show (Qa7 (Qdt t c) r).looks.length≤_;rw [List.length_cons];omega
theorem Qz4 {t:Txn} {l:List Cal} {k:Nat} {x:Cal} (h:l[k]?=some x):plR t.now (l.take (k+1))=plR t.now (l.take k)++[(doF (Qa7 t (l.take k)).now x).2]:=by
 rw [Zgm h,Qiu]
structure KeptT (t u:Txn) (k:Nat):Prop where
 now:KeptN t.now u.now k
 ok:OkT u
 was:u.was=t.was
 len:u.looks.length≤t.looks.length+7*k
theorem Qy5 {t:Txn} (okt:OkT t) (T:TreeP t.now) {l:List Cal} (hl:l.length≤1000) (ok:∀ c∈l,OkCal c) (hx:t.now.next<1152921504606847976) (hk0:t.looks.length≤1000) {k:Nat} (hk:k≤l.length):KeptT t (Qa7 t (l.take k)) k:=by
 have h1:=Zc2 okt.now T hl ok hx k hk;have h2:=Qri (l.take k) t;rw [List.length_take,Nat.min_eq_left hk] at h2;exact ⟨by rw [Qiu];exact h1,⟨by rw [Ql4];exact okt.stamp,by rw [Ql3];exact okt.was,by rw [Qiu];exact h1.ok,by omega⟩,Ql3 _ _,h2⟩
theorem Qqy {s:Sto} (oks:OkS s):OkT (Qag s):=⟨oks.1,Qpg oks _,Qpg oks _,by show ([]:List Int).length≤_;simp⟩
noncomputable def runD (s:Sto) (l:List Cal):Sto:=(Qch s (Qa7 (Qag s) l)).1
theorem Zf6 (s:Sto) (l:List Cal) (ms:MidS s) (T:TreeP (Qag s).now) (hl:l.length≤1000) (ok:∀ c∈l,OkCal c) (hx:(Qag s).now.next<1152921504606847976):Qaf prog 32 [.agg (stoA s),.sl 8 false (l.map calA)] (.tup [.agg (stoA (runD s l)),.sl 6 false ((plR (Qag s).now l).map repA)]):=by
 exact Qac func32 (
 .new fun b1=>.new fun b2=>.r 1<|.u 1 [b1]<|
 .call (Qdz s ms.ok (by have:=ms.l;omega))<|
 .new fun b3=>.u 1 [b3]<|
 .r 2<|.lm 13 l calA<|.op (mkN prog) (59,(l.length:Int),(l.length:Int),45,[aI 0,aI 0,aI 0,aI 0,aS ([]),aN],14) (fun (V:Value) σ=>(σ.put (some 14) (.rw 14 V l.length)).setB 14 (.row V 45 6 (List.replicate l.length [aI 0,aI 0,aI 0,aI 0,aS ([]),aN]))) (Zf9 l.length 72 (by kernel_rfl) (by omega) (by omega) (by omega)) fun V1=>
 .r 1<|.r 2<|.lm 16 l calA<|.r 1<|let L1:Lp (Nat):=⟨fun a1=>⟨[(2,.ptr 2 b1 0),(4,.ptr 4 b2 0),(6,.ptr 6 b3 0),(7,.rw 14 V1 l.length),(15,.sl 8 false (l.map calA)),(16,aI (l.length:Int)),(17,aI (a1:Int))],[(2,.box b1 25 (stoA s)),(4,.box b2 25 [aN,aN,aI 0]),(6,.box b3 31 [aI ((Qa7 (Qag s) (l.take a1)).stamp),.sl 5 false ((Qa7 (Qag s) (l.take a1)).was.l.map nodA),aI ((Qa7 (Qag s) (l.take a1)).was.next),.sl 5 false ((Qa7 (Qag s) (l.take a1)).now.l.map nodA),aI ((Qa7 (Qag s) (l.take a1)).now.next),.sl 1 false ((Qa7 (Qag s) (l.take a1)).looks.map intA)]),(14,.row V1 45 6 (prow (plR (Qag s).now (l.take a1)) l.length))]⟩,fun a1=>l.length-a1,fun a1=>a1≤l.length⟩
 .lp L1 0 (show 0≤l.length from Nat.zero_le _) [(17,aI 0)] [(6,.box b3 31 [aI ((Qag s).stamp),.sl 5 false ((Qag s).was.l.map nodA),aI ((Qag s).was.next),.sl 5 false ((Qag s).now.l.map nodA),aI ((Qag s).now.next),.sl 1 false ((Qag s).looks.map intA)]),(14,.row V1 45 6 (List.replicate l.length [aI 0,aI 0,aI 0,aI 0,aS ([]),aN]))] ⟨sR,sR,sR,sR,sR,sR,sO,trivial⟩ ⟨sB,sB,⟨_,rfl,SubB.of_eq rfl⟩,⟨_,rfl,SubB.of_eq rfl⟩,trivial⟩ fun a1 ha1=>
 (fun (k:Nat) (hH1:k≤l.length)=>have kt:=Qy5 (Qqy ms.ok) T hl ok hx (Nat.zero_le _) (k:=k) (by omega);have kp:=kt.now;have kp2:=kp.next;have kl:=kt.len;have kl0:(Qag s).looks.length=0:=rfl;.r 1<|.bd 18 ((k:Int)<(l.length:Int)) (fun p1=>.r 1<|.idxM l calA k (m:=(k:Int)) rfl (by omega) fun x1 hx1=>
 have okx1:=ok x1 (List.mem_of_getElem? hx1);.r 1<|.new fun b4=>.u 2 [b4]<|
 .st (rowR 14) (V1,45,6,prow (plR (Qag s).now (l.take k)) l.length) (fun _ σ=>σ) (Qbx 14 (by first | omega | (rw [Qpu (by rw [Qig,List.length_take];omega)];omega))) fun a5r=>
 .u 4 [b3,b4]<|
 .call (Ql5 (Qa7 (Qag s) (l.take k)) x1 kp.ok okx1 kp.tree.rows (by omega) (by omega))<|
 .u 4 [b3]<|
 .op (ixR prog) (14,V1,l.length,6,(k:Int),some 30) (fun (_:Unit) σ=>σ.put (some 30) (.ep 14 V1 6 k 0)) (Qe4 k a5r.2.1 (by omega) (by first | omega | (rw [Qpu (by rw [Qig,List.length_take];omega)];omega))) fun _=>
 .op (stR prog) (14,V1,6,k,0,V1,45,6,prow (plR (Qag s).now (l.take k)) l.length,[aI ((doF (Qa7 (Qag s) (l.take k)).now x1).2.e),aI ((doF (Qa7 (Qag s) (l.take k)).now x1).2.a),aI ((doF (Qa7 (Qag s) (l.take k)).now x1).2.b),aI ((doF (Qa7 (Qag s) (l.take k)).now x1).2.n),aS ((doF (Qa7 (Qag s) (l.take k)).now x1).2.text),AV.sl 1 false ((doF (Qa7 (Qag s) (l.take k)).now x1).2.names.map txA)],none) (fun (_:Unit) σ=>(σ.put (none) .any).setB 14 (.row V1 45 6 ((prow (plR (Qag s).now (l.take k)) l.length).set k ((zRA ()).take 0++[aI ((doF (Qa7 (Qag s) (l.take k)).now x1).2.e),aI ((doF (Qa7 (Qag s) (l.take k)).now x1).2.a),aI ((doF (Qa7 (Qag s) (l.take k)).now x1).2.b),aI ((doF (Qa7 (Qag s) (l.take k)).now x1).2.n),aS ((doF (Qa7 (Qag s) (l.take k)).now x1).2.text),AV.sl 1 false ((doF (Qa7 (Qag s) (l.take k)).now x1).2.names.map txA)]++(zRA ()).drop (0+[aI ((doF (Qa7 (Qag s) (l.take k)).now x1).2.e),aI ((doF (Qa7 (Qag s) (l.take k)).now x1).2.a),aI ((doF (Qa7 (Qag s) (l.take k)).now x1).2.b),aI ((doF (Qa7 (Qag s) (l.take k)).now x1).2.n),aS ((doF (Qa7 (Qag s) (l.take k)).now x1).2.text),AV.sl 1 false ((doF (Qa7 (Qag s) (l.take k)).now x1).2.names.map txA)].length))))) (Qi2 (zRA ()) (Zgk (by rw [Qig,List.length_take];omega) (by omega)) (Nat.le_of_ble_eq_true rfl)) fun _=>
 .run 2 [rng .i64 ((k:Int)+1)] ⟨Qaj (by omega) (by omega),trivial⟩<|
 .bk L1 k (k+1) (show (k+1)≤l.length from (by show _≤_;omega)) (show l.length-(k+1)<l.length-k from (by omega)) [(17,aI ((k:Int)+1))] [(6,.box b3 31 [aI ((Qdt (Qa7 (Qag s) (l.take k)) x1).stamp),.sl 5 false ((Qdt (Qa7 (Qag s) (l.take k)) x1).was.l.map nodA),aI ((Qdt (Qa7 (Qag s) (l.take k)) x1).was.next),.sl 5 false ((Qdt (Qa7 (Qag s) (l.take k)) x1).now.l.map nodA),aI ((Qdt (Qa7 (Qag s) (l.take k)) x1).now.next),.sl 1 false ((Qdt (Qa7 (Qag s) (l.take k)) x1).looks.map intA)]),(14,.row V1 45 6 ((prow (plR (Qag s).now (l.take k)) l.length).set k ((zRA ()).take 0++[aI ((doF (Qa7 (Qag s) (l.take k)).now x1).2.e),aI ((doF (Qa7 (Qag s) (l.take k)).now x1).2.a),aI ((doF (Qa7 (Qag s) (l.take k)).now x1).2.b),aI ((doF (Qa7 (Qag s) (l.take k)).now x1).2.n),aS ((doF (Qa7 (Qag s) (l.take k)).now x1).2.text),AV.sl 1 false ((doF (Qa7 (Qag s) (l.take k)).now x1).2.names.map txA)]++(zRA ()).drop (0+[aI ((doF (Qa7 (Qag s) (l.take k)).now x1).2.e),aI ((doF (Qa7 (Qag s) (l.take k)).now x1).2.a),aI ((doF (Qa7 (Qag s) (l.take k)).now x1).2.b),aI ((doF (Qa7 (Qag s) (l.take k)).now x1).2.n),aS ((doF (Qa7 (Qag s) (l.take k)).now x1).2.text),AV.sl 1 false ((doF (Qa7 (Qag s) (l.take k)).now x1).2.names.map txA)].length))))] ⟨sR,sR,sR,sR,sR,sR,sO,trivial⟩ ⟨sB,sB,⟨_,rfl,SubB.of_eq (by rw [Qxx hx1])⟩,⟨_,rfl,SubB.of_eq (by rw [Qz4 hx1];exact congrArg _ (Zgj (v:=(doF (Qa7 (Qag s) (l.take k)).now x1).2) (by rw [Qig,List.length_take];omega) (by omega)))⟩,trivial⟩)
 <| fun p1=>.u 2 [b1,b3]<|
 .call (Qnh s (Qa7 (Qag s) (l.take k)) ms kt.ok (by rw [kt.was];exact T.rows) kp.tree.rows)<|
 .u 4 [b1]<|
 .u 4 [b1,b2]<|
 .frz 14 [4,5] [4] [V1=V1,l.length=(prow (plR (Qag s).now (l.take k)) l.length).length] ⟨rfl,(Qpu (by rw [Qig,List.length_take];omega)).symm,trivial⟩<|
 .f (.tup [.agg (stoA (runD s l)),.sl 6 false ((plR (Qag s).now l).map repA)]) [b2] (.tup [.agg [.sl 2 false ((Qch s (Qa7 (Qag s) (l.take k))).1.l.map chnA),.sl 2 false ((Qch s (Qa7 (Qag s) (l.take k))).1.nexts.map cntA),aI ((Qch s (Qa7 (Qag s) (l.take k))).1.stamp)],.sl 6 false (prow (plR (Qag s).now (l.take k)) l.length)]) (by
  unfold runD;rw [show l.take k=l from Qav (by omega),Zbs (Qig _ _)]
  first | exact sR | exact Sub.tups ⟨sR,Sub.loose _ _ _,trivial⟩)) a1 ha1)
theorem Qzk {f g:Fsy} (okf:OkF f) (okg:OkF g):∀ c∈Qb8 f g,OkCh c:=fun c hc=>by
 obtain ⟨i,hi,h⟩:=List.mem_filterMap.1 hc;have hI:I64 i:=by
  rcases Qti.1 hi with h | h
  ·obtain ⟨n,hn,rfl⟩:=List.mem_map.1 h;exact (okf.2.2 n hn).1
  ·obtain ⟨n,hn,rfl⟩:=List.mem_map.1 h;exact (okg.2.2 n hn).1
 unfold chgD at h
 split at h
 ·obtain rfl:=Option.some.inj h;exact ⟨hI,Qke⟩
 ·rename_i hb
  split at h
  ·obtain rfl:=Option.some.inj h;exact ⟨hI,okg.2.2 _ (Qdi (Qfk (by simpa using hb)))⟩
  ·cases h
theorem Zjk {s:Sto} {B:Nat} (h:Fit s B) (hB:B≤1000) (hs:s.stamp<1152921504606846977):MidS s:=⟨h.ok,by have:=h.l;omega,by have:=h.n;omega,fun c hc=>by have:=h.r c hc;omega,hs⟩
theorem Qwk:Fit newS 1:=⟨Qkf,by decide,by decide,fun c h=>by obtain rfl:=List.mem_singleton.1 h;decide⟩
theorem Zg2:MidS newS:=Zjk Qwk (by decide) (by decide)
theorem Zcd:Qd4 newS 1=newF:=by rfl
theorem Qde:Qag newS=⟨1,newF,newF,[]⟩:=by unfold Qag;rw [show newS.stamp=1 from rfl,Zcd]
noncomputable def tA:Txn:=Qdt (Qag newS) cA
theorem Qrh:tA=⟨1,newF,fA,Qc3 ([]++Qbb newF cA)⟩:=by unfold tA;rw [Qde];unfold Qdt;rw [doA1]
theorem Zke:(0:Int)∈tA.looks:=by
 rw [Qrh];show (0:Int)∈Qc3 _;rw [Qgi];unfold Qbb;rw [if_pos (.inl rfl)];simp
theorem Qz8:¬ tA.was=tA.now:=by
 rw [Qrh];intro h;have:=congrArg Fsy.next h;rw [show (⟨1,newF,fA,Qc3 ([]++Qbb newF cA)⟩:Txn).now=fA from rfl,Qht.2.2.1] at this;exact absurd this (by decide)
theorem tA_len:tA.looks.length≤7:=Qiv (Qag newS) cA
theorem Zkf:OkT tA:=by
 have h:=tA_len;refine ⟨?_,?_,?_,by omega⟩<;>rw [Qrh]
 ·exact Qwx (by decide) (by decide)
 ·exact Qp2
 ·exact Qht.2.1
noncomputable def kA:Sto:=Qii newS (Qb8 newF fA) 3
theorem kA_run:runD newS [cA]=kA:=by
 unfold runD;rw [show Qa7 (Qag newS) [cA]=tA from rfl,Qni (Qab.2 Qz8) (Qab.2 ?_)]
 ·rw [Qrh];show Qii newS (Qb8 newF fA) fA.next=kA;rw [Qht.2.2.1];rfl
 ·rintro ⟨x,hx,_⟩;rw [Qrh] at hx;rw [show (⟨1,newF,fA,Qc3 ([]++Qbb newF cA)⟩:Txn).stamp=newS.stamp from rfl,Qx5 Qyx] at hx;cases hx
theorem Zhf:kA.stamp=2:=rfl
theorem Zhg:kA.nexts=[⟨1,2⟩,⟨2,3⟩]:=by
 show Qd9 newS 3=_;rw [Qr1 (s:=newS) (next:=3) (c:=⟨1,2⟩) rfl (by decide)];rfl
theorem Qww:Qk7 kA tA:=by
 refine ⟨0,?_,Zke⟩;rw [show tA.stamp=1 from by rw [Qrh]];unfold Qdc;rw [if_pos (.inr (by unfold Zg5;rw [Zhg];rfl))];simp
theorem Zc6:Fit kA 513:=by
 have hl:(Qb8 newF fA).length≤257:=by
  have:=Qnm newF fA;have:=Qht.1.1;have:=Zg3;omega
 have h:=Qwk.inst (Qzk Qp2 Qht.2.1) (next:=3) (Qwx (by decide) (by decide)) (by decide) (by omega);have h2:kA.stamp=2:=rfl;exact ⟨h.ok,by have:=h.l;show kA.l.length≤_;unfold kA;omega,by have:=h.n;unfold kA;omega,fun c hc=>by have:=h.r c hc;omega⟩
theorem kA_mid:MidS kA:=Zjk Zc6 (by decide) (by decide)
def rA:Rep:=⟨0,2,0,0,[],[]⟩
theorem rA_eq:plR (Qag newS).now [cA]=[rA]:=by
 rw [Qde];show [(doF newF cA).2]=_;rw [doA1];rfl
theorem fA_was:tA.was=newF:=by rw [Qrh]
theorem fA_now:tA.now=fA:=by rw [Qrh]
theorem Qb9:Qaf prog 18 [.agg (txnA (Qag newS)),.agg (calA cA)] (.tup [.agg (txnA tA),.agg (repA rA)]):=by
 have h:=Ql5 (Qag newS) cA (by rw [Qde];exact Qp2) cA_ok (by rw [Qde];exact Qev) (by rw [Qde];decide) (by show ([]:List Int).length≤_;simp);rw [show (doF (Qag newS).now cA).2=rA from by rw [Qde,doA1];rfl] at h;exact h
theorem Zce:TreeP (Qag newS).now:=by
 rw [Qde];exact Qei.1 ⟨Qev,⟨Qh4,rfl,rfl,rfl,rfl⟩,fun p hp=>(by cases hp),fun i x hx=>(by cases i<;>cases hx)⟩
theorem Zap:Qaf prog 32 [.agg (stoA newS),.sl 8 false ([cA].map calA)] (.tup [.agg (stoA kA),.sl 6 false ([rA].map repA)]):=by
 have h:=Zf6 newS [cA] Zg2 Zce (by decide) (fun c h=>by obtain rfl:=List.mem_singleton.1 h;exact cA_ok) (by rw [Qde];decide);rw [kA_run,rA_eq] at h;exact h
theorem Zl9:Qch kA tA=(kA,15):=Qk6 (Qab.2 Qz8) (Qas.2 Qww)
theorem Qs1:Qaf prog 30 [.agg (stoA kA),.agg (txnA tA)] (.tup [.agg (stoA kA),aI 15]):=by
 have h:=Qnh kA tA kA_mid Zkf (by rw [fA_was];exact Qev) (by rw [fA_now];exact Qht.1);rw [Zl9] at h;exact h
theorem Qyd :Qaf prog 43 [] (.agg (stoA newS)):=by
 exact Qac func43 (
 .new fun b1=>.call (Za3)<|
 .new fun b2=>.u 1 [b2]<|
 .u 2 [b2]<|
 .idxM newF.l nodA 0 (m:=0) (show (0:Int)=((0:Nat):Int) from rfl) (by decide) fun x1 hx1=>
 have ex1:=Zlh hx1;.u 9 [b1]<|
 .f (.agg (stoA newS)) [b1] (.agg [.sl 2 true ([[aI 1,.sl 7 true ([[aI 1,aB false,aI x1.ino,aI x1.kind,aI x1.links,aS x1.text,.sl 2 false (x1.l.map entA)]])]]),.sl 2 true ([[aI 1,aI 2]]),aI 1]) (by
  obtain rfl:=ex1
  first | exact sR | exact Sub.aggs ⟨Qv1 ⟨sR,Qv1 sr7,trivial⟩,Qv1 sr2,sR,trivial⟩))
theorem Zkn :Qaf prog 11 [] (aB true):=by
 exact Qac func11 (
 .r 1<|.call (Qyd)<|
 .new fun b1=>.u 1 [b1]<|
 .r 1<|.new fun b2=>.u 1 [b2]<|
 .u 3 [b1,b2]<|
 .cs (args0:=[.agg (stoA newS),.sl 8 true ([[aI 6,aI 1,aI 0,aI 0,aI 0,aS ([97]),aS ([]),aS ([])]])]) (Zap) ⟨sR,Sub.loose _ _ _,trivial⟩<|
 .r 3<|.new fun b3=>.u 2 [b3]<|
 let J1:Jn (Nat):=⟨fun j1=>⟨[(0,aB false),(3,.ptr 3 b3 0),(4,.sl 6 false ([rA].map repA)),(5,.ptr 5 j1 0)],[(3,.box b3 25 (stoA kA)),(5,.box j1 31 (txnA tA))]⟩,fun _=>True⟩
 .cut J1 (.pick [0,2]<|.u 2 [b1,b2]<|
 .fork<|.alt (.call (Qdz newS Qkf (by decide))<|
 .fork<|.alt (.cs (args0:=[.agg [aI ((Qag newS).stamp),.sl 5 false ((Qag newS).was.l.map nodA),aI ((Qag newS).was.next),.sl 5 false ((Qag newS).now.l.map nodA),aI ((Qag newS).now.next),.sl 1 false ((Qag newS).looks.map intA)],.agg [aI 6,aI 1,aI 0,aI 0,aI 0,aS ([97]),aS ([]),aS ([])]]) (Qb9) sr2<|
 .pick [4,5,6]<|.r 3<|.fork<|.alt (.new fun b4=>.pick [8,9,10]<|.new fun b5=>.u 2 [b4,b5]<|
 .jo J1 b4 [] [] sr4 bb2)
 <| .new fun b6=>.pick [7,9,10]<|.new fun b7=>.u 2 [b7,b6]<|
 .jo J1 b7 [] [] sr4 bb2)
 <| .alt (.new fun b8=>.fork<|.alt (.cs (args0:=[.agg [aI ((Qag newS).stamp),.sl 5 false ((Qag newS).was.l.map nodA),aI ((Qag newS).was.next),.sl 5 false ((Qag newS).now.l.map nodA),aI ((Qag newS).now.next),.sl 1 false ((Qag newS).looks.map intA)],.agg [aI 6,aI 1,aI 0,aI 0,aI 0,aS ([97]),aS ([]),aS ([])]]) (Qb9) sr2<|
 .pick [4,5,6,8,9,10]<|.r 3<|.new fun b9=>.u 2 [b8,b9]<|
 .jo J1 b8 [] [] sr4 bb2)
 <| .new fun b10=>.pick [3,4,5,6,9,10]<|.cs (args0:=[.agg [aI ((Qag newS).stamp),.sl 5 false ((Qag newS).was.l.map nodA),aI ((Qag newS).was.next),.sl 5 false ((Qag newS).now.l.map nodA),aI ((Qag newS).now.next),.sl 1 false ((Qag newS).looks.map intA)],.agg [aI 6,aI 1,aI 0,aI 0,aI 0,aS ([97]),aS ([]),aS ([])]]) (Qb9) sr2<|
 .u 5 [b8,b10]<|
 .jo J1 b8 [] [] sr4 bb2)
 <| .new fun b11=>.fork<|.alt (.cs (args0:=[.agg [aI ((Qag newS).stamp),.sl 5 false ((Qag newS).was.l.map nodA),aI ((Qag newS).was.next),.sl 5 false ((Qag newS).now.l.map nodA),aI ((Qag newS).now.next),.sl 1 false ((Qag newS).looks.map intA)],.agg [aI 6,aI 1,aI 0,aI 0,aI 0,aS ([97]),aS ([]),aS ([])]]) (Qb9) sr2<|
 .pick [4,5,6,7,9,10]<|.r 3<|.new fun b12=>.u 2 [b12,b11]<|
 .jo J1 b12 [] [] sr4 bb2)
 <| .new fun b13=>.pick [3,4,5,6,9,10]<|.cs (args0:=[.agg [aI ((Qag newS).stamp),.sl 5 false ((Qag newS).was.l.map nodA),aI ((Qag newS).was.next),.sl 5 false ((Qag newS).now.l.map nodA),aI ((Qag newS).now.next),.sl 1 false ((Qag newS).looks.map intA)],.agg [aI 6,aI 1,aI 0,aI 0,aI 0,aS ([97]),aS ([]),aS ([])]]) (Qb9) sr2<|
 .u 5 [b13,b11]<|
 .jo J1 b13 [] [] sr4 bb2)
 <| .alt (.new fun b14=>.fork<|.alt (.call (Qdz newS Qkf (by decide))<|
 .fork<|.alt (.cs (args0:=[.agg [aI ((Qag newS).stamp),.sl 5 false ((Qag newS).was.l.map nodA),aI ((Qag newS).was.next),.sl 5 false ((Qag newS).now.l.map nodA),aI ((Qag newS).now.next),.sl 1 false ((Qag newS).looks.map intA)],.agg [aI 6,aI 1,aI 0,aI 0,aI 0,aS ([97]),aS ([]),aS ([])]]) (Qb9) sr2<|
 .pick [4,5,6,8,9,10]<|.r 3<|.new fun b15=>.u 2 [b14,b15]<|
 .jo J1 b14 [] [] sr4 bb2)
 <| .new fun b16=>.pick [3,4,5,6,9,10]<|.cs (args0:=[.agg [aI ((Qag newS).stamp),.sl 5 false ((Qag newS).was.l.map nodA),aI ((Qag newS).was.next),.sl 5 false ((Qag newS).now.l.map nodA),aI ((Qag newS).now.next),.sl 1 false ((Qag newS).looks.map intA)],.agg [aI 6,aI 1,aI 0,aI 0,aI 0,aS ([97]),aS ([]),aS ([])]]) (Qb9) sr2<|
 .u 5 [b14,b16]<|
 .jo J1 b14 [] [] sr4 bb2)
 <| .new fun b17=>.pick [1,3,4,5,6,9,10]<|.call (Qdz newS Qkf (by decide))<|
 .cs (args0:=[.agg [aI ((Qag newS).stamp),.sl 5 false ((Qag newS).was.l.map nodA),aI ((Qag newS).was.next),.sl 5 false ((Qag newS).now.l.map nodA),aI ((Qag newS).now.next),.sl 1 false ((Qag newS).looks.map intA)],.agg [aI 6,aI 1,aI 0,aI 0,aI 0,aS ([97]),aS ([]),aS ([])]]) (Qb9) sr2<|
 .u 5 [b14,b17]<|
 .jo J1 b14 [] [] sr4 bb2)
 <| .new fun b18=>.fork<|.alt (.call (Qdz newS Qkf (by decide))<|
 .fork<|.alt (.cs (args0:=[.agg [aI ((Qag newS).stamp),.sl 5 false ((Qag newS).was.l.map nodA),aI ((Qag newS).was.next),.sl 5 false ((Qag newS).now.l.map nodA),aI ((Qag newS).now.next),.sl 1 false ((Qag newS).looks.map intA)],.agg [aI 6,aI 1,aI 0,aI 0,aI 0,aS ([97]),aS ([]),aS ([])]]) (Qb9) sr2<|
 .pick [4,5,6,7,9,10]<|.r 3<|.new fun b19=>.u 2 [b19,b18]<|
 .jo J1 b19 [] [] sr4 bb2)
 <| .new fun b20=>.pick [3,4,5,6,9,10]<|.cs (args0:=[.agg [aI ((Qag newS).stamp),.sl 5 false ((Qag newS).was.l.map nodA),aI ((Qag newS).was.next),.sl 5 false ((Qag newS).now.l.map nodA),aI ((Qag newS).now.next),.sl 1 false ((Qag newS).looks.map intA)],.agg [aI 6,aI 1,aI 0,aI 0,aI 0,aS ([97]),aS ([]),aS ([])]]) (Qb9) sr2<|
 .u 5 [b20,b18]<|
 .jo J1 b20 [] [] sr4 bb2)
 <| .new fun b21=>.pick [1,3,4,5,6,9,10]<|.call (Qdz newS Qkf (by decide))<|
 .cs (args0:=[.agg [aI ((Qag newS).stamp),.sl 5 false ((Qag newS).was.l.map nodA),aI ((Qag newS).was.next),.sl 5 false ((Qag newS).now.l.map nodA),aI ((Qag newS).now.next),.sl 1 false ((Qag newS).looks.map intA)],.agg [aI 6,aI 1,aI 0,aI 0,aI 0,aS ([97]),aS ([]),aS ([])]]) (Qb9) sr2<|
 .u 5 [b21,b18]<|
 .jo J1 b21 [] [] sr4 bb2)
 <| fun j1 _=>(fun (b22:Nat)=>.u 2 [b3,b22]<|
 .call (Qs1)<|
 .r 3<|.new fun b23=>.u 2 [b23]<|
 .u 4 [b3]<|
 .is 34 (show (kA.stamp==2)=true from (by rw [Zhf];rfl))<|.r 2<|.lm 36 ([rA]) repA<|.r 3<|.is 39 (show ((([rA]).length:Int)==1)=true from rfl)<|.r 1<|.idxM ([rA]) repA 0 (m:=0) (show (0:Int)=((0:Nat):Int) from rfl) (by decide) fun x1 hx1=>
 have ex1:=(Option.some.inj (show some rA=some x1 from hx1));.r 5<|.is 46 (show (x1.a==2)=true from (by rw [← ex1];rfl))<|.r 4<|.is 50 (show (15==15)=true from rfl)<|.u 2 [b3,b22]<|
 .call (Qpa kA tA Zc6.ok (by have:=Zc6.l;omega) Zkf)<|
 .r 2<|.is 55 (show (dP (Qk7 kA tA))=true from (Qas.2 Qww))<|.u 1 [b22]<|
 .call (Qm4 tA Zkf)<|
 .r 3<|.f (aB true) [] (aB (!(dP (tA.was=tA.now)))) (by exact Sub.of_eq (congrArg aB (by first | rfl | (rw [Qab.2 Qz8];rfl))))) j1)
end Go.Proofs.YtahlldgocpabjaaGreat
