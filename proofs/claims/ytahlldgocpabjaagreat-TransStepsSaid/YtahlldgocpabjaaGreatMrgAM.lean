import Derived.Test.YtahlldgocpabjaaGreatMrgAL
import Derived.Test.YtahlldgocpabjaaGreatMrgAF
import Derived.Test.YtahlldgocpabjaaGreatMrgAK
import Derived.Test.YtahlldgocpabjaaGreatMrgP
import Derived.Test.YtahlldgocpabjaaGreatMrgT
import Derived.Test.YtahlldgocpabjaaGreatAbsBr
import Derived.Test.YtahlldgocpabjaaGreatMrgA
import Derived.Test.YtahlldgocpabjaaGreatMrgJ
import Derived.Test.YtahlldgocpabjaaGreatRows
set_option maxRecDepth 100000
set_option maxHeartbeats 8000000
set_option linter.unusedVariables false
set_option linter.unusedSimpArgs false
namespace Go.Proofs.YtahlldgocpabjaaGreat
open Go Go.RowKit Copyhold Go.Proofs.Tryz
theorem Zac {t:Txn} {c:Cal} (okt:OkT t) (hl:t.looks.length≤90000) (K:Kept t.now (doF t.now c).1):OkT (Qdt t c):=⟨okt.stamp,okt.was,K.ok,by have:=Qiv t c;omega⟩
def rgtT (t:Txn):Prop:=(Asc t.looks∧∀ x∈t.looks,0≤x)∧Qgp t.was∧Qgp t.now∧t.was.next≤t.now.next∧1≤t.stamp
theorem Zk1 {t:Txn} (h1:fewF t.was) (h2:fewF t.now):rgtT t↔txnP t:=by
 have k1:Qgp t.was↔Qeu t.was:=⟨fun h=>Qn6 (Qgv h1) (Qei.1 h),fun h=>Qei.2 (Qie h1 h)⟩
 have k2:Qgp t.now↔Qeu t.now:=⟨fun h=>Qn6 (Qgv h2) (Qei.1 h),fun h=>Qei.2 (Qie h2 h)⟩
 unfold rgtT txnP;rw [k1,k2]
def rgJ (t:Txn):Jn (Nat × Nat):=⟨fun j=>⟨[(1,.ptr 1 j.1 0),(2,.ptr 2 j.2 0)],[(1,.box j.1 31 (txnA t)),(2,.box j.2 4 [aB false])]⟩,fun _=>1≤t.stamp∧t.was.next≤t.now.next∧Qgp t.was∧Qgp t.now⟩
theorem Za7 (t:Txn) (okt:OkT t) (c:Cx) (hc:c.n=f14.ntmps):AWp c prog (nav [0] (f14.body.getD .skip)) (QF c prog (FinG prog f14 (.val (aB (dP (rgtT t))))) [.k (nav [1,0] (f14.body.getD .skip)),.jn (rgJ t)]) (LS.mk (Qcn [.agg (txnA t)] 0) []).fs:=by
 have key:∀ ct:Ct prog,vcC ct=vc prog f14 (.val (aB (dP (rgtT t)))) 400 ct (.code (nav [0] (f14.body.getD .skip))) [.k (nav [1,0] (f14.body.getD .skip)),.jn (rgJ t)] ⟨Qcn [.agg (txnA t)] 0,[]⟩→_:=fun ct h=>
  Qaz (c:=c) (F:=f14) (r:=(.val (aB (dP (rgtT t))))) hc (by kernel_rfl) 400 ct (.code (nav [0] (f14.body.getD .skip))) [.k (nav [1,0] (f14.body.getD .skip)),.jn (rgJ t)] ⟨Qcn [.agg (txnA t)] 0,[]⟩ (h ▸ Qaw ct)
 exact key (let R:AV:=aB (dP (rgtT t));
 .new fun b1=>.new fun b2=>.u 4 [b1]<|
 .br 8 (decide (t.stamp<1)) (fun q1=>have p1:=decT q1;.r 20<|.u 1 [b2]<|
 .f R [b2] (aB false) (by
  refine sF (fun h=>?_);obtain ⟨h1,h2,h3,h4,h5⟩:=h
  first | omega | (simp_all [Qab];done)))
 <| fun q1=>have p1:=decF q1;.u 9 [b1,b1]<|
 .br 17 (decide (t.now.next<t.was.next)) (fun q2=>have p2:=decT q2;.r 11<|.u 1 [b2]<|
 .f R [b2] (aB false) (by
  refine sF (fun h=>?_);obtain ⟨h1,h2,h3,h4,h5⟩:=h
  first | omega | (simp_all [Qab];done)))
 <| fun q2=>have p2:=decF q2;.u 2 [b1]<|
 .call (Qk0 t.was okt.was)<|
 .r 3<|.br 23 (!(dP (Qgp t.was))) (fun q3=>have q3:=notT q3;have p3:=booF q3;.r 5<|.u 1 [b2]<|
 .f R [b2] (aB false) (by
  refine sF (fun h=>?_);obtain ⟨h1,h2,h3,h4,h5⟩:=h
  first | omega | (simp_all [Qab];done)))
 <| fun q3=>have q3:=notF q3;have p3:=booT q3;.u 2 [b1]<|
 .call (Qk0 t.now okt.now)<|
 .r 2<|.br 28 (!(dP (Qgp t.now))) (fun q4=>have q4:=notT q4;have p4:=booF q4;.u 1 [b2]<|
 .f R [b2] (aB false) (by
  refine sF (fun h=>?_);obtain ⟨h1,h2,h3,h4,h5⟩:=h
  first | omega | (simp_all [Qab];done)))
 <| fun q4=>have q4:=notF q4;have p4:=booT q4;.jo (rgJ t) (b1,b2) [] [] sr2 bb2 (hH:=⟨by omega,by omega,Qas.1 (by assumption),Qas.1 (by assumption)⟩)) (by kernel_rfl)
end Go.Proofs.YtahlldgocpabjaaGreat

namespace Go.Proofs.YtahlldgocpabjaaGreat
open Go Go.RowKit Go.Shelf Copyhold
attribute [local go_sem] Oper.semAt_some
def ascI (L:List Int):Prop:=L.Pairwise (· < ·)∧∀ x∈L,0≤x
def Qmw (L:List Int):Int:=L.getLast?.getD (-1)
theorem Zcz:Qmw [] = -1:=rfl
theorem Qho (L:List Int) (x:Int):Qmw (L++[x])=x:=by simp [Qmw]
theorem Zi5:ascI []:=⟨List.Pairwise.nil,by simp⟩
theorem Ze5 {L:List Int} (h:ascI L):∀ y∈L,y≤Qmw L:=by
 intro y hy;rcases List.eq_nil_or_concat L with rfl | ⟨l,x,rfl⟩
 ·cases hy
 ·rw [List.concat_eq_append] at *;rw [Qho];rcases List.mem_append.1 hy with hy | hy
  ·have:=(List.pairwise_append.1 h.1).2.2 y hy x (by simp);omega
  ·rw [List.mem_singleton.1 hy];omega
theorem Zha {L:List Int} (h:ascI L):-1≤Qmw L:=by
 rcases List.eq_nil_or_concat L with rfl | ⟨l,x,rfl⟩
 ·exact Int.le_refl _
 ·rw [List.concat_eq_append] at *;rw [Qho];have:=h.2 x (by simp);omega
theorem Ze4 {L:List Int} {x:Int} (h:ascI L) (hx:¬ x≤Qmw L):ascI (L++[x]):=by
 have hl:=Ze5 h;have hg:=Zha h;refine ⟨List.pairwise_append.2 ⟨h.1,by simp,fun a ha b hb=>?_⟩,fun y hy=>?_⟩
 ·rw [List.mem_singleton.1 hb];have:=hl a ha;omega
 ·rcases List.mem_append.1 hy with hy | hy
  ·exact h.2 y hy
  ·rw [List.mem_singleton.1 hy];omega
theorem Zi6 {L M:List Int} {x:Int} (h:ascI L) (hx:x≤Qmw L) (hp:L++[x] <+: M):¬ ascI M:=by
 intro hM;have h2:ascI (L++[x]):=⟨hM.1.sublist hp.sublist,fun y hy=>hM.2 y (hp.subset hy)⟩
 rcases List.eq_nil_or_concat L with rfl | ⟨l,y,rfl⟩
 ·rw [Zcz] at hx;have:=h2.2 x (by simp);omega
 ·rw [List.concat_eq_append] at *;rw [Qho] at hx;have:=(List.pairwise_append.1 h2.1).2.2 y (by simp) x (by simp);omega
open Classical in
theorem Qyf (n:Nat) (hn:3≤n) (x0 x3 x4 x5 x6 x7 x8 x9 x10 x11 x12 x13 x14 x15 x16 x17 x18 x19 x20 x21 x22 x23 x24 x25 x26 x27 x28 x29 x30 x31 x32 x33 x34 x35:Value) (b1 b2 base:Nat) (st n1 n2:Int) (s1 s2:Value) (A:Option Addr) (c:Nat) (L:List Int) (hlL:L.length≤140737488351232) (w0 w:World) (D:Nat→Prop) (hD:∀ b,D b→b<w.heap.size)
  (hL:Ra D w (.sl 1 false (L.map intA)) (.slice A L.length c)) (hT:TBox w b1 31 #[.int .i64 st,s1,.int .i64 n1,s2,.int .i64 n2,.slice A L.length c]) (hF:Boxed w b2 4 (.bool false)) (hbs:base≤w.heap.size) (hb2:base≤b2) (hB:Below base w0 w)
  (R:Ending→World→Prop) (hR:∀ W',Below base w0 W'→R (.returned (.bool (decide (ascI L)))) W') :
  (nav [1,1] (Tryz.f14.body.getD .skip)).wpIn Fence.wide n Tryz.prog (bodyPostM Fence.wide n Tryz.prog Tryz.f14 R) { tmps:=#[x0,.pointer (some ⟨b1,0,none⟩),.pointer (some ⟨b2,0,none⟩),x3,x4,x5,x6,x7,x8,x9,x10,x11,x12,x13,x14,x15,x16,x17,x18,x19,x20,x21,x22,x23,x24,x25,x26,x27,x28,x29,x30,x31,x32,x33,x34,x35],defers:=[] } w:=by
 have h1:1≤n:=by omega
 have e0:=hT.cell 0;have e1:=hT.cell 1;have e2:=hT.cell 2;have e3:=hT.cell 3;have e4:=hT.cell 4;have e5:=hT.cell 5;have hlt1:b1<w.heap.size:=hT.lt;have hlt2:b2<w.heap.size:=(Array.getElem?_eq_some_iff.1 hF).1;simp only [List.getElem?_toArray,List.getElem?_cons_zero,List.getElem?_cons_succ] at e0 e1 e2 e3 e4 e5;have HL:=Lib.hid hL;have HF:=Lib.hid hF;have HB:=Lib.hid (And.intro hB hD);clear hL hF hB hT hD
 conv=>arg 4;whnf
 gi_wp2_with (refine ⟨trivial,?_⟩;gi_at_call 45;refine (Zcp (n-1) st n1 n2 s1 s2 (.slice A L.length c) _).mono ?_;rintro e w' ⟨rfl,rfl⟩)
 rename_i K0 hK0;have HK0:=Lib.hid hK0;clear hK0 e0 e1 e2 e3 e4 e5;obtain ⟨hB,hD⟩:=HB.out;have hF:=HF.out;have hL:=HL.out;obtain ⟨W4,hW4⟩:∃ W,W=(w.alloc (.cells #[.int .i64 (-1)] 3)).alloc (.cells #[.int .i64 st,s1,.int .i64 n1,s2,.int .i64 n2,.slice A L.length c] 31):=⟨_,rfl⟩
 have hb34:Below w.heap.size w W4:=by rw [hW4];exact ((Below.refl _ w).alloc (Nat.le_refl _) _).alloc (by simp) _
 have hs4:W4.heap.size=w.heap.size+1+1:=by rw [hW4];simp
 have bL4:Boxed W4 w.heap.size 3 (.int .i64 (-1)):=by rw [hW4];exact (Boxed.new w _ _).alloc _
 have bF4:Boxed W4 b2 4 (.bool false):=by rw [hW4];exact (hF.alloc _).alloc _
 have hL4:Ra D W4 (.sl 1 false (L.map intA)) (.slice A L.length c):=hL.frame (fun _ h=>h) hb34.size (fun b hb hl=>hb34.block b hl);have hT4:TBox W4 (w.heap.size+1) 31 #[.int .i64 st,s1,.int .i64 n1,s2,.int .i64 n2,.slice A L.length c]:=by
  rw [hW4];have:=TBox.new (w.alloc (.cells #[.int .i64 (-1)] 3)) 31 #[.int .i64 st,s1,.int .i64 n1,s2,.int .i64 n2,.slice A L.length c];simpa only [World.size_alloc] using this
 have hc5:W4.cell? ⟨w.heap.size+1,5,none⟩=some (.slice A L.length c):=hT4.cell 5;have hB4:Below base w0 W4:=hB.trans (hb34.mono hbs);rw [← hW4];clear hW4 hF hL HF HL HB hB;refine wpIn_rangeFunc_ownG rfl h1 (gf:=83) (lb:=#[.pointer (some ⟨w.heap.size+1,0,none⟩)]) rfl trivial (enters_of Tryz.func83 (by kernel_rfl) rfl)
  (Qr4 (n-1) (by omega) (w.heap.size+1) w.heap.size c A L hlL D hD W4 (by omega) (by omega) hc5 hL4) belowK_t (belowK_b (by omega)) (Below.refl _ _) (fun _=>rfl)
  (fun (pre:List Int) W=>(Boxed W w.heap.size 3 (.int .i64 (Qmw pre))∧Boxed W b2 4 (.bool false)∧ascI pre)∧Below w.heap.size W4 W)
  (fun c (pre:List Int) W=>(c=.ret∧(∃ p x,p++[x]=pre∧ascI p∧x≤Qmw p)∧Boxed W b2 4 (.bool false))∧Below base W4 W)
  (OwnFrom.and (Own.from (fun s X Y row hs hg hr=>⟨boxed_own w.heap.size 3 (fun (pre:List Int)=>.int .i64 (Qmw pre)) s X Y row hs.1 hg hr,boxed_own b2 4 (fun (_:List Int)=>.bool false) s X Y row hs.2.1 hg hr,hs.2.2⟩) _) (ownFrom_below (by omega) (by omega)))
  (fun c=>OwnFrom.and (Own.from (fun s X Y row hs hg hr=>⟨hs.1,hs.2.1,boxed_own b2 4 (fun (_:List Int)=>.bool false) s X Y row hs.2.2 hg hr⟩) _) (ownFrom_below (by omega) (by omega)))
  ⟨⟨bL4,bF4,Zi5⟩,Below.refl _ _⟩
  (fun (x:Int)=>{ tmps:=#[x0,.pointer (some ⟨b1,0,none⟩),.pointer (some ⟨b2,0,none⟩),.pointer (some ⟨w.heap.size,0,none⟩),.int .i64 x,x5,x6,x7,x8,x9,x10,x11,x12,x13,x14,x15,x16,x17,x18,x19,x20,x21,x22,x23,x24,x25,x26,x27,x28,.agg #[.int .i64 st,s1,.int .i64 n1,s2,.int .i64 n2,.slice A L.length c],.func (.func 83) #[] #[.pointer (some ⟨w.heap.size+1,0,none⟩)],.int .i64 x,x32,x33,x34,x35],defers:=[] }) ?assign ?body ?done ?stop
 case assign=>
  intro l x W K hK
  gi_wp2
  exact hK
 case body=>
  rintro l pre x W ⟨⟨hQ,hF,hasc⟩,hB⟩ hlt;have cQ:=hQ.cell;have fQ:=hQ.frozen;have cF:=hF.cell;have fF:=hF.frozen;have HA:=Lib.hid hasc;clear hL4 hc5 bL4 bF4 hasc;by_cases hx:x≤Qmw pre
  ·gi_wp2
   exact ⟨(KeepsOthers.setCell W ⟨b2,0,none⟩ (.bool false)).from _,⟨rfl,⟨pre,x,rfl,HA.out,hx⟩,hF.set _⟩,(hB.mono hbs).setCell (p:=⟨b2,0,none⟩) hb2 _⟩
  ·gi_wp2
   refine ⟨(KeepsOthers.setCell W ⟨w.heap.size,0,none⟩ (.int .i64 x)).from _,(Below.refl _ _).setCell (p:=⟨w.heap.size,0,none⟩) (Nat.le_refl _) _,⟨?_,hF.other (by omega) _,Ze4 HA.out (by omega)⟩,hB.setCell (p:=⟨w.heap.size,0,none⟩) (Nat.le_refl _) _⟩;rw [Qho];exact hQ.set _
 case done=>
  rintro D1 ys W hD1 rfl ⟨⟨hQ,hF,hasc⟩,hB⟩ hK;have cF:=hF.cell;have fF:=hF.frozen;obtain ⟨W5,hW5⟩:∃ W5,W5=W.setCell ⟨b2,0,none⟩ (.bool true):=⟨_,rfl⟩
  have hK':W5.heap[D1]?=some (.deferred (some [])):=by rw [hW5];exact (KeepsOthers.setCell W ⟨b2,0,none⟩ (.bool true)).same D1 _ hK rfl
  have hb5:Below base W4 W5:=by rw [hW5];exact (hB.mono hbs).setCell (p:=⟨b2,0,none⟩) hb2 _
  have b5:Boxed W5 b2 4 (.bool true):=by rw [hW5];exact hF.set _
  have hcc:=cell_kept b5.cell (grownBy_putObj' _ D1 (.deferred none)) (fun r e=>by cases e;exact ⟨_,hK',rfl⟩);have HF5:=Lib.hid (And.intro hcc (And.intro hK' hb5));clear hcc hK' hb5 b5 hQ hF
  gi_wp2
  refine HK0.out _ _ ?_
  gi_wp2
  rw [← hW5];obtain ⟨hcc,hK',hb5⟩:=HF5.out;refine ⟨by simp,.inl ⟨_,_,rfl,run_takeDeferred hK',?_⟩⟩;have hfin:=hR (W5.putObj D1 (Obj.deferred none)) ((hB4.trans hb5).trans (belowK_b (w:=w) (Nat.le_refl _) W5 D1 _ _ (by omega) hK' rfl rfl |>.mono hbs));rw [decide_eq_true hasc] at hfin;refine ⟨.bool true,?_,hfin⟩;simp [results,Tryz.f14,go_sem,hcc]
 case stop=>
  rintro D1 c pre W hD1 hpre ⟨⟨rfl,⟨p,x,rfl,hasc,hx⟩,hF⟩,hB⟩ hK;have cF:=hF.cell;have hcc:=cell_kept cF (grownBy_putObj' _ D1 (.deferred none)) (fun r e=>by cases e;exact ⟨_,hK,rfl⟩)
  gi_wp2
  refine ⟨by simp,.inl ⟨_,_,rfl,run_takeDeferred hK,?_⟩⟩;have hfin:=hR (W.putObj D1 (Obj.deferred none)) ((hB4.trans hB).trans (belowK_b (w:=w) (Nat.le_refl _) W D1 _ _ (by omega) hK rfl rfl |>.mono hbs));rw [decide_eq_false (Zi6 hasc hx hpre)] at hfin;refine ⟨.bool false,?_,hfin⟩;simp [results,Tryz.f14,go_sem,hcc]
end Go.Proofs.YtahlldgocpabjaaGreat

namespace Go.Proofs.YtahlldgocpabjaaGreat
open Go Go.RowKit Copyhold Go.Proofs.Tryz
theorem unc {l:List Value} {n:Nat} (h:l.length=n+1):∃ a r,l=a :: r∧r.length=n:=by
 cases l with
 | nil=>cases h
 | cons a r=>exact ⟨a,r,rfl,by simpa using h⟩
open Classical in
theorem Qtu (t:Txn) (okt:OkT t):Qaf prog 14 [.agg (txnA t)] (aB (dP (rgtT t))):=by
 intro D w vs hD hvs;have hbl:=okt.len;refine (callsIn_wide (n:=3)).1 (callsIn_of_wp_marks func14 rfl trivial ?_ rfl);obtain ⟨c,hc⟩:∃ c:Cx,c=⟨w.heap.size,w,f14.ntmps,D,fun _=>False⟩:=⟨_,rfl⟩
 have hrel:Rel c (LS.mk (Qcn [.agg (txnA t)] 0) []).fs { tmps:=vs++Array.replicate (f14.ntmps-vs.size) undef,defers:=[] } w:=by
  subst hc;refine ⟨Nat.le_refl _,D,rfl,?_,BelowL.refl,hD,⟨fun _ h=>h,fun _ h=>.inl h⟩,fun k v hv=>?_,fun id x h=>(by cases h),fun i j x z hx=>(by cases hx)⟩
  ·have:=hvs.1;simp [Tryz.ntmps14] at this ⊢;omega
  ·show Ra D w (lget (Qcn [.agg (txnA t)] 0) k) v;rw [Qej];by_cases ht:k<vs.size
   ·rw [Array.getElem?_append_left ht] at hv;have h1:=hvs.1;simp at h1;obtain rfl:k=0:=by omega
    exact hvs.2 0 _ v rfl hv
   ·have h1:=hvs.1;simp at h1;have:([AV.agg (txnA t)].getD (k-0) .any)=.any:=by simp [List.getD,List.getElem?_eq_none (show [AV.agg (txnA t)].length≤k from by simp;omega)]
    simp only [Nat.zero_le,if_true] at *
    first | (rw [this];exact .any v) | (simp at *;exact .any v)
 have done:∀ (s':FS) (a':Act) (w':World),FinG prog f14 (.val (aB (dP (rgtT t)))) .ret s'→Rel c s' a' w'→bodyPostM Fence.wide 3 prog f14 (fun e w'=>∃ v,∃ D':Nat→Prop,e=.returned v∧Below w.heap.size w w'∧(∀ b,D b→D' b)∧(∀ b,D' b→b<w'.heap.size∧(D b∨w.heap.size≤b))∧Ra D' w' (aB (dP (rgtT t))) v) .ret a' w':=by
  rintro s' a' w' ⟨_,hd⟩ ⟨hcb,D',hR⟩;subst hc;obtain ⟨v,hv1,hrv⟩:=Qet hR (fun rv hrv=>by have:=List.all_eq_true.1 (show (f14.results.toList.all fun rv=>decide ((match rv with | .tmp t=>t | .cell t _=>t)<f14.ntmps))=true from by kernel_rfl) rv hrv;cases rv<;>simpa using this) hd;have hdf:=hR.defers;show LeavesInM _ _ _ _ _ _ a'.defers _ _;rw [hdf];exact ⟨v,hv1,v,D',rfl,hR.below.plain (fun _ h=>h),hR.old.1,fun b hb=>⟨hR.dlt b hb,(hR.old.2 b hb).imp id fun h=>h.resolve_right id⟩,hrv⟩
 refine wpIn_wide.2 (wp_seq (wp_mono (Za7 t okt c (by subst hc;rfl) _ w hrel) ?_));rintro e a1 w1 ⟨s1,q1,r1⟩;cases e with
 | normal=>
  refine wp_seq (wp_mono (q1 a1 w1 r1) ?_);rintro e a2 w2 ⟨s2,q2,r2⟩;cases e with
  | normal=>
   obtain ⟨⟨b1,b2⟩,hH,hle⟩:=q2;obtain ⟨hcb,D2,hR0⟩:=r2;have hR2:=hR0.weaken' hle;subst hc;obtain ⟨tm,df⟩:=a2;have hdf:df=[]:=hR2.defers;have hsz:tm.size=36:=hR2.size;subst hdf;obtain ⟨tl⟩:=tm;have g0:tl.length=35+1:=by simpa using hsz
   obtain ⟨x0,t0,rfl,g1⟩:=unc g0;obtain ⟨x1,t1,rfl,g2⟩:=unc g1;obtain ⟨x2,t2,rfl,g3⟩:=unc g2;obtain ⟨x3,t3,rfl,g4⟩:=unc g3;obtain ⟨x4,t4,rfl,g5⟩:=unc g4;obtain ⟨x5,t5,rfl,g6⟩:=unc g5;obtain ⟨x6,t6,rfl,g7⟩:=unc g6;obtain ⟨x7,t7,rfl,g8⟩:=unc g7;obtain ⟨x8,t8,rfl,g9⟩:=unc g8;obtain ⟨x9,t9,rfl,g10⟩:=unc g9;obtain ⟨x10,t10,rfl,g11⟩:=unc g10;obtain ⟨x11,t11,rfl,g12⟩:=unc g11;obtain ⟨x12,t12,rfl,g13⟩:=unc g12;obtain ⟨x13,t13,rfl,g14⟩:=unc g13;obtain ⟨x14,t14,rfl,g15⟩:=unc g14;obtain ⟨x15,t15,rfl,g16⟩:=unc g15;obtain ⟨x16,t16,rfl,g17⟩:=unc g16;obtain ⟨x17,t17,rfl,g18⟩:=unc g17;obtain ⟨x18,t18,rfl,g19⟩:=unc g18;obtain ⟨x19,t19,rfl,g20⟩:=unc g19;obtain ⟨x20,t20,rfl,g21⟩:=unc g20;obtain ⟨x21,t21,rfl,g22⟩:=unc g21;obtain ⟨x22,t22,rfl,g23⟩:=unc g22;obtain ⟨x23,t23,rfl,g24⟩:=unc g23;obtain ⟨x24,t24,rfl,g25⟩:=unc g24;obtain ⟨x25,t25,rfl,g26⟩:=unc g25;obtain ⟨x26,t26,rfl,g27⟩:=unc g26;obtain ⟨x27,t27,rfl,g28⟩:=unc g27;obtain ⟨x28,t28,rfl,g29⟩:=unc g28;obtain ⟨x29,t29,rfl,g30⟩:=unc g29;obtain ⟨x30,t30,rfl,g31⟩:=unc g30;obtain ⟨x31,t31,rfl,g32⟩:=unc g31;obtain ⟨x32,t32,rfl,g33⟩:=unc g32;obtain ⟨x33,t33,rfl,g34⟩:=unc g33;obtain ⟨x34,t34,rfl,g35⟩:=unc g34;obtain ⟨x35,t35,rfl,g36⟩:=unc g35;obtain rfl:=List.eq_nil_of_length_eq_zero g36;have p1:x1=.pointer (some ⟨b1,0,none⟩):=by have:=hR2.tm 1 x1 rfl;generalize hy:((rgJ t).st (b1,b2)).fs.tm 1=y at this;have hy':AV.ptr 1 b1 0=y:=hy;subst hy';cases this;rfl
   have p2:x2=.pointer (some ⟨b2,0,none⟩):=by have:=hR2.tm 2 x2 rfl;generalize hy:((rgJ t).st (b1,b2)).fs.tm 2=y at this;have hy':AV.ptr 2 b2 0=y:=hy;subst hy';cases this;rfl
   subst p1 p2;obtain ⟨k1,vs1,hT,hl1,_,hv1⟩:=hR2.bx 1 _ rfl;obtain ⟨k2,vs2,hF,hl2,_,hv2⟩:=hR2.bx 2 _ rfl;obtain ⟨a0,q3,a2,a3,a4,a5,rfl⟩:=arr6 hl1.symm;obtain ⟨f0,rfl⟩:∃ f,vs2=#[f]:=by
    rcases vs2 with ⟨l⟩
    match l,hl2 with
    | [f],_=>exact ⟨f,rfl⟩
   obtain rfl:=Qif (hv1 0 _ a0 rfl rfl);obtain rfl:=Qif (hv1 2 _ a2 rfl rfl);obtain rfl:=Qif (hv1 4 _ a4 rfl rfl);obtain rfl:=Qif (hv2 0 _ f0 rfl rfl);have r5:=hv1 5 _ a5 rfl rfl;obtain ⟨A,cc,rfl⟩:=Qpt r5;have hb2:w.heap.size≤b2:=((k2 b2 rfl).1).resolve_right id;refine wpIn_wide.1 (Qyf 3 (Nat.le_refl _) x0 x3 x4 x5 x6 x7 x8 x9 x10 x11 x12 x13 x14 x15 x16 x17 x18 x19 x20 x21 x22 x23 x24 x25 x26 x27 x28 x29 x30 x31 x32 x33 x34 x35 b1 b2 w.heap.size t.stamp t.was.next t.now.next q3 a3 A cc t.looks (by omega) w w2 D2 hR2.dlt r5 hT hF hcb hb2 (hR2.below.plain (fun _ h=>h)) _ (fun W' hB'=>?_));refine ⟨_,D,rfl,hB',fun _ h=>h,fun b h=>⟨Nat.lt_of_lt_of_le (hD b h) hB'.size,.inl h⟩,?_⟩;have e:decide (ascI t.looks)=dP (rgtT t):=by
    by_cases h:ascI t.looks
    ·rw [decide_eq_true h,Qas.2 ⟨h,hH.2.2.1,hH.2.2.2,hH.2.1,hH.1⟩]
    ·rw [decide_eq_false h,Qab.2 (fun g=>h g.1)]
   rw [e];exact .val _
  | ret=>exact done s2 a2 w2 q2 r2
  | _=>exact (by rcases q2.1 with h | h<;>cases h)
 | ret=>exact done s1 a1 w1 q1 r1
 | _=>exact (by rcases q1.1 with h | h<;>cases h)
end Go.Proofs.YtahlldgocpabjaaGreat

namespace Go.Proofs.YtahlldgocpabjaaGreat
open Go Go.RowKit Copyhold Go.Proofs.Tryz
theorem Qlz (s:Sto) (t:Txn) (c:Cal) (o:Txn) (oks:OkS s) (okt:OkT t) (okc0:OkC0 c) (oko:OkT o):Qaf prog 3 [.agg [.sl 2 false (s.l.map chnA),.sl 2 false (s.nexts.map cntA),aI s.stamp,aI t.stamp,.sl 5 false (t.was.l.map nodA),aI t.was.next,.sl 5 false (t.now.l.map nodA),aI t.now.next,.sl 1 false (t.looks.map intA),aI c.kind,aI c.ino,aI c.to,aI c.at_,aI c.many,aS c.name,aS c.name2,aS c.text,aI o.stamp,.sl 5 false (o.was.l.map nodA),aI o.was.next,.sl 5 false (o.now.l.map nodA),aI o.now.next,.sl 1 false (o.looks.map intA)]] (aB true):=by
 have hbl:=okt.len;have hbo:=oko.len;have hsl:=Qiv t c;have htl:=Qep t.now c;exact Qac func3 (
 .new fun b1=>.r 1<|.u 2 [b1]<|
 .new fun b2=>.u 1 [b2]<|
 .u 2 [b1]<|
 .new fun b3=>.u 1 [b3]<|
 .u 2 [b1]<|
 .new fun b4=>.u 1 [b4]<|
 .u 2 [b1]<|
 .new fun b5=>.u 1 [b5]<|
 .call (Zkn)<|
 .r 1<|.u 2 [b3]<|
 .call (Qjs t.was okt.was)<|
 .r 2<|.br 26 (!(dP (fewF t.was))) (fun q1=>have q1:=notT q1;have p1:=booF q1;.r 11<|.r 2<|.f (aB true) [] (aB true) (by exact Sub.of_eq (by first | rfl | (refine congrArg aB ?_;simp_all;done))))
 <| fun q1=>have q1:=notF q1;have p1:=booT q1;.u 2 [b3]<|
 .call (Qjs t.now okt.now)<|
 .r 3<|.br 32 (!(dP (fewF t.now))) (fun q2=>have q2:=notT q2;have p2:=booF q2;.r 5<|.r 2<|.f (aB true) [] (aB true) (by exact Sub.of_eq (by first | rfl | (refine congrArg aB ?_;simp_all;done))))
 <| fun q2=>have q2:=notF q2;have p2:=booT q2;.u 2 [b4]<|
 .cs (args0:=[.sl 8 true ([(calA c)])]) (Qx2 [c] (by show 1≤_;omega) (fun x hx=>by rw [List.mem_singleton.1 hx];exact okc0)) ⟨Sub.loose _ _ _,trivial⟩<|
 .r 2<|.br 37 (!(dP (Qfo [c]))) (fun q3=>have q3:=notT q3;have p3:=booF q3;.r 2<|.f (aB true) [] (aB true) (by exact Sub.of_eq (by first | rfl | (refine congrArg aB ?_;simp_all;done))))
 <| fun q3=>have q3:=notF q3;have p3:=booT q3;have okc:=Zfv (Qas.1 q3) (List.mem_singleton.2 rfl) okc0;have htx:=(Zai (Qas.1 q3) (List.mem_singleton.2 rfl)).2.2;.ord [0,2,1,3,4]<|.u 2 [b3,b3]<|
 .call (Qtu t okt)<|
 .call (Qkz t okt (Qgv (Qas.1 q1)) (Qgv (Qas.1 q2)))<|
 .r 1<|.is 43 (show (!((dP (rgtT t))==(dP (txnP t))))=false from (by rw [show ((dP (rgtT t))==(dP (txnP t)))=true from (by rw [show dP (rgtT t)=dP (txnP t) from congrArg dP (propext (Zk1 (Qas.1 q1) (Qas.1 q2)))];simp)];rfl))<|.u 1 [b2]<|
 .call (Qyg s oks)<|
 .r 2<|.br 47 (!(dP (Zhn s))) (fun q4=>have q4:=notT q4;have p4:=booF q4;.r 9<|.r 2<|.f (aB true) [] (aB true) (by exact Sub.of_eq (by first | rfl | (refine congrArg aB ?_;simp_all;done))))
 <| fun q4=>have q4:=notF q4;have p4:=booT q4;have hgs:=Qas.1 q4;.u 1 [b3]<|
 .call (Qog t okt)<|
 .r 3<|.br 52 (!(dP (fewT t))) (fun q5=>have q5:=notT q5;have p5:=booF q5;.r 4<|.r 2<|.f (aB true) [] (aB true) (by exact Sub.of_eq (by first | rfl | (refine congrArg aB ?_;simp_all;done))))
 <| fun q5=>have q5:=notF q5;have p5:=booT q5;have hft:=Qas.1 q5;have hpt:=hft.2.2.2.2;have T:=Qie hft.2.1 hpt.2.2.1;have hp:=T.rows;have hx:=hft.2.2.2.1;have hl:=hft.2.2.1;have kd:=Zc4 okt.now okc T (by omega);.u 1 [b5]<|
 .call (Qog o oko)<|
 .r 2<|.nbb 56 (dP (fewT o)) (fun p6=>.r 2<|.f (aB true) [] (aB true) (by exact Sub.of_eq (by first | rfl | (refine congrArg aB ?_;simp_all;done))))
 <| fun p6=>.u 2 [b3,b4]<|
 .call (Ql5 t c okt.now okc hp (by omega) (by omega))<|
 .r 3<|.new fun b6=>.new fun b7=>.u 2 [b6,b7]<|
 .u 2 [b3,b4]<|
 .call (Qx9 t c okt.now okc hp (by omega) (by omega) T (Qgv hft.2.1) (by omega) hpt.1.1)<|
 .r 3<|.new fun b8=>.new fun b9=>.u 2 [b8,b9]<|
 .ord [0,1,2,3,4,5,6,7,8,9,11,10,12,13,14,15,16,17,18,20,21,22,19,23,24,25,26]<|.u 2 [b6,b8]<|
 .call (Qia (Qdt t c) (Qdt t c) (Zac okt (by omega) kd) (Zac okt (by omega) kd))<|
 .r 1<|.is 73 (show (dP ((Qdt t c)=(Qdt t c)))=true from (Qas.2 rfl))<|.u 2 [b7,b9]<|
 .call (Qt5 (doF t.now c).2 (doF t.now c).2 (Qnd hp) (Nat.le_trans (Qnd hp) (by decide)))<|
 .r 2<|.is 78 (show (dP ((doF t.now c).2=(doF t.now c).2))=true from (Qas.2 rfl))<|.u 2 [b2,b2]<|
 .call (Qdz s oks (by have:=Qqm hgs.1;omega))<|
 .call (Qui s oks (by have:=Qqm hgs.1;omega))<|
 .call (Qia (Qag s) (Qag s) (Qqy oks) (Qqy oks))<|
 .r 2<|.is 85 (show (dP ((Qag s)=(Qag s)))=true from (Qas.2 rfl))<|.u 6 [b3,b4,b3,b4]<|
 .call (Qj7 t.now c okt.now okc hp)<|
 .call (Qmc t.now c okt.now okc hp)<|
 .call (Qoz (Qbb t.now c) (Qbb t.now c) (by omega) (by omega))<|
 .r 2<|.ord [0,1,2,3,4,5,6,8,9,7,10,11,12,13,14,16,17,18,19,15,20,21,22,23]<|.r 5<|.is 100 (show (dP (Qbb t.now c=Qbb t.now c))=true from (Qas.2 rfl))<|.u 4 [b3,b5,b3,b5]<|
 .call (Qtt t o okt oko)<|
 .call (Qia t o okt oko)<|
 .r 3<|.is 109 (show ((dP (t=o))==(dP (t=o)))=true from (by simp))<|.u 5 [b3,b3,b3]<|
 .call (Qm4 t okt)<|
 .call (Qkl t.was t.now okt.was okt.now)<|
 .r 3<|.f (aB true) [] (aB ((dP (t.was=t.now))==(dP (t.was=t.now)))) (by exact Sub.of_eq (by first | rfl | (refine congrArg aB ?_;simp_all;done))))
structure Stp where
 s:Sto
 t:Txn
 c:Cal
 o:Txn
def stpA (a:Stp):List AV:=[.sl 2 false (a.s.l.map chnA),.sl 2 false (a.s.nexts.map cntA),aI a.s.stamp,aI a.t.stamp,.sl 5 false (a.t.was.l.map nodA),aI a.t.was.next,.sl 5 false (a.t.now.l.map nodA),aI a.t.now.next,.sl 1 false (a.t.looks.map intA),aI a.c.kind,aI a.c.ino,aI a.c.to,aI a.c.at_,aI a.c.many,aS a.c.name,aS a.c.name2,aS a.c.text,aI a.o.stamp,.sl 5 false (a.o.was.l.map nodA),aI a.o.was.next,.sl 5 false (a.o.now.l.map nodA),aI a.o.now.next,.sl 1 false (a.o.looks.map intA)]
structure OkStp (a:Stp):Prop where
 s:OkS a.s
 t:OkT a.t
 c:OkC0 a.c
 o:OkT a.o
theorem Qly (a:Stp) (h:OkStp a):Qaf prog 3 [.agg (stpA a)] (aB true):=Qlz a.s a.t a.c a.o h.s h.t h.c h.o
end Go.Proofs.YtahlldgocpabjaaGreat

namespace Copyhold
open Go Go.RowKit Go.ChangeShapes Go.WideShapes Go.ChangeAt Go.Deep
structure Opn {α:Type} (P:Program) (W:World) (t:TypeId) (en:α→List AV) (ok:α→Prop):Prop where
 run:∀ (H:Type) (enc:TypeId × Value→H) (fuel:Nat) (cs:List Value) (x:DataW H × List MemPlace),
  DataW.trod enc P W 0 (fun _=>true) true fuel t cs=some x→(∀ p∈x.2,p.block<W.heap.size)→(∀ n∈DataW.weights P t x.1,n≤140737488351232) →
  ∃ a,Qh9 (·<W.heap.size) W (en a) cs∧(∀ u∈cs,u.oneCell'=true)∧ok a
section
variable {P:Program} {W:World} {t:TypeId}
theorem Opn.map {α β:Type} {en:α→List AV} {ok:α→Prop} {en':β→List AV} {ok':β→Prop} (h:Opn P W t en ok) (f:α→β) (he:∀ a,en' (f a)=en a) (ho:∀ a,ok a→ok' (f a)):Opn P W t en' ok':=Opn.mk fun H enc fuel cs x h1 h2 h3=>by
 obtain ⟨a,g1,g2,g3⟩:=h.run H enc fuel cs x h1 h2 h3;exact ⟨f a,by rw [he];exact g1,g2,ho a g3⟩
theorem Qg5 {D:Nat→Prop} {w:World} {a:AV} {v:Value} (h:Ra D w a v):Qh9 D w [a] [v]:=⟨rfl,fun j x u hx hu=>by
 match j,hx,hu with
 | 0,hx,hu=>simp at hx hu;subst hx hu;exact h
 | j+1,hx,_=>simp at hx⟩
theorem wf_i64 {z:Int} (w:(Lit.int .i64 z).wf=true):-9223372036854775808≤z∧z≤9223372036854775807:=by
 simpa [Lit.wf,IntKind.min,IntKind.max,IntKind.signed,IntKind.bits] using w
theorem Qcv (hu:P.underlying t=some (.int .i64)):Opn P W t (fun n:Int=>[aI n]) (fun n=>-9223372036854775808≤n∧n≤9223372036854775807):=Opn.mk fun H enc fuel cs x h1 h2 h3=>by
 obtain ⟨n,rfl,rfl,hw⟩:=DataW.trod_int hu h1;exact ⟨n,Qg5 (.val _),fun u hu=>by obtain rfl:=List.mem_singleton.1 hu;rfl,wf_i64 hw⟩
theorem Zgw (hu:P.underlying t=some .bool):Opn P W t (fun n:Bool=>[aB n]) (fun _=>True):=Opn.mk fun H enc fuel cs x h1 h2 h3=>by
 obtain ⟨n,rfl,rfl⟩:=DataW.trod_bool hu h1;exact ⟨n,Qg5 (.val _),fun u hu=>by obtain rfl:=List.mem_singleton.1 hu;rfl,trivial⟩
theorem Qfu (hu:P.underlying t=some .string):Opn P W t (fun n:List UInt8=>[aS n]) (fun n=>n.length≤140737488351232):=Opn.mk fun H enc fuel cs x h1 h2 h3=>by
 obtain ⟨s,rfl,rfl,_⟩:=DataW.trod_string hu h1;exact ⟨s.data.toList,Qg5 (.val _),fun u hu=>by obtain rfl:=List.mem_singleton.1 hu;rfl,h3 _ (by simp [DataW.weights])⟩
theorem Qgu {α:Type} {en:α→List AV} {ok:α→Prop} {e:TypeId} {k:Nat} (h:Opn P W e en ok) (a0:α) (hu:P.underlying t=some (.slice e)) (hc:P.cellsOf e=k) (hk:0<k) (hb:16≤P.bytesOf e) :
  Opn P W t (fun l:List α=>[.sl k false (l.map en)]) (fun l=>l.length≤8796093022207∧∀ a∈l,ok a):=Opn.mk fun H enc fuel cs x h1 h2 h3=>by
 obtain ⟨v,rs,rfl,hr,hd⟩:=Qi8 (k:=k) (R:=fun a cs=>Qh9 (·<W.heap.size) W (en a) cs∧(∀ u∈cs,u.oneCell'=true)∧ok a) hu hc hk a0 (fun n cs' y hy hl hcl hww=>h.run H enc n cs' y hy hl hww) h1 h2 h3;have hsz:=Qoi hu hd h3;have:=Nat.le_trans (Nat.mul_le_mul_left rs.length hb) hsz;have hra:Ra (·<W.heap.size) W (.sl k false (rs.map en)) v:=Qom hr (·<W.heap.size) (fun _ h=>h) (fun a _ cs _ hR=>⟨hR.2.1,hR.1⟩);obtain ⟨A,c,rfl⟩:=hr.shape;refine ⟨rs,Qg5 hra,fun u hu=>by obtain rfl:=List.mem_singleton.1 hu;rfl,by omega,fun a ha=>?_⟩;obtain ⟨css,g1,g2,g3⟩:=hr;obtain ⟨i,hi,rfl⟩:=List.mem_iff_getElem.1 ha;exact (g3 i _ _ (List.getElem?_eq_getElem (by omega)) (List.getElem?_eq_getElem hi)).2.2.2
theorem Qyu {α:Type} {en:α→List AV} {ok:α→Prop} {e:TypeId} {k:Nat} (h:Opn P W e en ok) (a0:α) (hu:P.underlying t=some (.slice e)) (hc:P.cellsOf e=k) (hk:0<k) (hb:1≤P.bytesOf e) :
  Opn P W t (fun l:List α=>[.sl k false (l.map en)]) (fun l=>l.length≤140737488351232∧∀ a∈l,ok a):=Opn.mk fun H enc fuel cs x h1 h2 h3=>by
 obtain ⟨v,rs,rfl,hr,hd⟩:=Qi8 (k:=k) (R:=fun a cs=>Qh9 (·<W.heap.size) W (en a) cs∧(∀ u∈cs,u.oneCell'=true)∧ok a) hu hc hk a0 (fun n cs' y hy hl hcl hww=>h.run H enc n cs' y hy hl hww) h1 h2 h3;have hsz:=Qoi hu hd h3;have:=Nat.le_trans (Nat.mul_le_mul_left rs.length hb) hsz;have hra:Ra (·<W.heap.size) W (.sl k false (rs.map en)) v:=Qom hr (·<W.heap.size) (fun _ h=>h) (fun a _ cs _ hR=>⟨hR.2.1,hR.1⟩);obtain ⟨A,c,rfl⟩:=hr.shape;refine ⟨rs,Qg5 hra,fun u hu=>by obtain rfl:=List.mem_singleton.1 hu;rfl,by omega,fun a ha=>?_⟩;obtain ⟨css,g1,g2,g3⟩:=hr;obtain ⟨i,hi,rfl⟩:=List.mem_iff_getElem.1 ha;exact (g3 i _ _ (List.getElem?_eq_getElem (by omega)) (List.getElem?_eq_getElem hi)).2.2.2
structure OpnFs {γ:Type} (P:Program) (W:World) (N:Nat) (fs:List Field) (off:Nat) (en:γ→List AV) (ok:γ→Prop):Prop where
 run:∀ (H:Type) (enc:TypeId × Value→H) (m:Nat) (cs:List Value) (xs:List (DataW H × List MemPlace)),cs.length=N→xs.length=fs.length →
  (∀ (i:Nat) (f:Field),fs[i]?=some f→DataW.trod enc P W 0 (fun _=>true) true m f.type ((cs.drop f.offset).take (P.cellsOf f.type))=xs[i]?) →
  (∀ x∈xs,∀ p∈x.2,p.block<W.heap.size)→(∀ n∈DataW.weightsEach P (fs.map (·.type)) (xs.map (·.1)),n≤140737488351232) →
  ∃ g,Qh9 (·<W.heap.size) W (en g) (cs.drop off)∧(∀ u∈cs.drop off,u.oneCell'=true)∧ok g
theorem Qd0 (N:Nat):OpnFs P W N [] N (fun _:Unit=>[]) (fun _=>True):=OpnFs.mk fun H enc m cs xs h1 h2 h3 h4 h5=>by
 have:cs.drop N=[]:=List.drop_eq_nil_of_le (by omega);rw [this];exact ⟨(),⟨rfl,fun j a u ha=>by simp at ha⟩,fun u hu=>by simp at hu,trivial⟩
theorem Qs5 {D:Nat→Prop} {w:World} {xs ys:List AV} {cs ds:List Value} (h:Qh9 D w xs cs) (k:Qh9 D w ys ds):Qh9 D w (xs++ys) (cs++ds):=by
 refine ⟨by simp [h.1,k.1],fun j a u ha hu=>?_⟩;by_cases hj:j<xs.length
 ·rw [List.getElem?_append_left hj] at ha;rw [List.getElem?_append_left (by rw [h.1];exact hj)] at hu;exact h.2 j a u ha hu
 ·rw [List.getElem?_append_right (by omega)] at ha;rw [List.getElem?_append_right (by rw [h.1];omega),h.1] at hu;exact k.2 _ a u ha hu
theorem Qa0 {α γ:Type} {N off k:Nat} {f:Field} {fs:List Field} {en:α→List AV} {ok:α→Prop} {en2:γ→List AV} {ok2:γ→Prop} (h:Opn P W f.type en ok) (ho:f.offset=off) (hk:P.cellsOf f.type=k)
  (hr:OpnFs P W N fs (off+k) en2 ok2):OpnFs P W N (f :: fs) off (fun g:α × γ=>en g.1++en2 g.2) (fun g=>ok g.1∧ok2 g.2):=OpnFs.mk fun H enc m cs xs h1 h2 h3 h4 h5=>by
 obtain ⟨x0,xr,rfl⟩:∃ a r,xs=a :: r:=by
  cases xs with
  | nil=>simp at h2
  | cons a r=>exact ⟨a,r,rfl⟩
 have g0:=h3 0 f rfl;rw [ho,hk] at g0;simp only [List.map_cons,DataW.weightsEach] at h5;obtain ⟨a,ha,ha2,ha3⟩:=h.run H enc m _ x0 (by simpa using g0) (h4 x0 (by simp)) (fun n hn=>h5 n (by simp [hn]));obtain ⟨g,hg,hg2,hg3⟩:=hr.run H enc m cs xr h1 (by simpa using h2) (fun i f' hf=>by have:=h3 (i+1) f' (by simpa using hf);simpa using this) (fun x hx=>h4 x (by simp [hx])) (fun n hn=>h5 n (by simp [hn]));have e:cs.drop off=(cs.drop off).take k++cs.drop (off+k):=by
  rw [← List.drop_drop,List.take_append_drop]
 refine ⟨(a,g),?_,?_,ha3,hg3⟩
 ·rw [e];exact Qs5 ha hg
 ·intro u hu;rw [e] at hu;rcases List.mem_append.1 hu with h | h
  ·exact ha2 u h
  ·exact hg2 u h
theorem Qcl {γ:Type} {N:Nat} {fs:Array Field} {en:γ→List AV} {ok:γ→Prop} (hu:P.underlying t=some (.struct fs)) (hc:P.cellsOf t=N) (h:OpnFs P W N fs.toList 0 en ok):Opn P W t en ok:=Opn.mk fun H enc fuel cs x h1 h2 h3=>by
 obtain ⟨xs,m,_,rfl,hl,hlen,hfl⟩:=DataW.trod_struct hu h1;obtain ⟨g,g1,g2,g3⟩:=h.run H enc m cs xs (by rw [hl,hc]) (by simpa using hlen) (fun i f hf=>hfl i f (by simpa using hf)) (fun x hx p hp=>h2 p (by simp only [List.mem_flatMap];exact ⟨x,hx,hp⟩))
  (fun n hn=>h3 n (by simp only [DataW.weights,hu];exact hn))
 exact ⟨g,by simpa using g1,by simpa using g2,g3⟩
theorem Qzs {α:Type} {en:α→List AV} {ok:α→Prop} {fs:Array Field} {H:Type} {enc:TypeId × Value→H} {base:Nat} {v:Value} {d:DataW H} {p:List MemPlace} (h:Opn P W t en ok) (hu:P.underlying t=some (.struct fs)) (hv:Value.okWide P W .any base t v)
  (ht:∃ fuel,DataW.trod enc P W 0 (fun _=>true) true fuel t v.cells.toList=some (d,p)) (hlt:∀ x∈p,x.block<W.heap.size) (hw:∀ n∈DataW.weights P t d,n≤140737488351232):∃ a,Ra (·<W.heap.size) W (.agg (en a)) v∧ok a:=by
 obtain ⟨cs,rfl,_⟩:=okWide_struct hu hv;obtain ⟨fuel,ht⟩:=ht;obtain ⟨a,g1,g2,g3⟩:=h.run H enc fuel _ _ ht hlt hw;refine ⟨a,.agg _ _ (by have:=g1.1;simp [Value.cells] at this;omega) (fun j u hj=>g2 u (by have:=Array.mem_of_getElem? hj;simpa [Value.cells] using this)) (fun j x u hx hj=>g1.2 j x u hx (by simpa [Value.cells] using hj)),g3⟩
def RaL (D:Nat→Prop) (w:World):List AV→List Value→Prop
 | [],[]=>True
 | x :: xs,v :: vs=>Ra D w x v∧RaL D w xs vs
 | _,_=>False
theorem Zjf {D:Nat→Prop} {w:World}:∀ (xs:List AV) (vs:List Value),RaL D w xs vs→Qc0 D w xs vs.toArray
 | [],[],_=>⟨rfl,fun j a u ha=>by simp at ha⟩
 | x :: xs,v :: vs,h=>by
  have ih:=Zjf xs vs h.2;refine ⟨by have:=ih.1;simp at this ⊢;exact this,fun j a u ha hu=>?_⟩;cases j with
  | zero=>simp at ha hu;subst ha hu;exact h.1
  | succ j=>exact ih.2 j a u (by simpa using ha) (by simpa using hu)
 | [],_ :: _,h=>h.elim
 | _ :: _,[],h=>h.elim
theorem Qy4 {f:FuncId} {args:List AV} {vs:Array Value} {w:World} (h:Qaf P f args (aB true)) (hv:Qc0 (·<w.heap.size) w args vs) :
  Calls P f vs w (fun e w'=>e=.returned (.bool true)∧Below w.heap.size w w'):=by
 refine (h _ w vs (fun _ h=>h) hv).mono ?_;rintro e w' ⟨v,D',rfl,hb,_,_,hr⟩;cases hr;exact ⟨rfl,hb⟩
end
end Copyhold

namespace Go.Proofs.YtahlldgocpabjaaGreat
open Go Go.RowKit Copyhold Go.Proofs.Tryz
theorem Zlb (W:World):Opn prog W 128 entA OkE:=
 (Qcl (N:=2) Tryz.underlying128 (by kernel_rfl) (Qa0 (k:=1) (Qfu Tryz.underlying9) rfl (by kernel_rfl) (Qa0 (k:=1) (Qcv Tryz.underlying3) rfl (by kernel_rfl) (Qd0 2)))).map (fun g=>⟨g.1,g.2.1⟩) (fun _=>rfl) (fun a h=>⟨h.1,h.2.1⟩)
theorem Zgt (W:World):Opn prog W 82 (fun l:List (Ent)=>[.sl 2 false (l.map entA)]) (fun l=>l.length≤8796093022207∧∀ a∈l,OkE a):=Qgu (Zlb W) (⟨[],0⟩) Tryz.underlying82 (by kernel_rfl) (by decide) (Nat.le_of_ble_eq_true (by kernel_rfl))
theorem Zb5 (W:World):Opn prog W 84 nodA OkN:=
 (Qcl (N:=5) Tryz.underlying84 (by kernel_rfl) (Qa0 (k:=1) (Qcv Tryz.underlying3) rfl (by kernel_rfl) (Qa0 (k:=1) (Qcv Tryz.underlying3) rfl (by kernel_rfl) (Qa0 (k:=1) (Qcv Tryz.underlying3) rfl (by kernel_rfl) (Qa0 (k:=1) (Qfu Tryz.underlying9) rfl (by kernel_rfl) (Qa0 (k:=1) (Zgt W) rfl (by kernel_rfl) (Qd0 5))))))).map (fun g=>⟨g.1,g.2.1,g.2.2.1,g.2.2.2.1,g.2.2.2.2.1⟩) (fun _=>rfl) (fun a h=>⟨h.1,h.2.1,h.2.2.1,h.2.2.2.1,h.2.2.2.2.1.1,h.2.2.2.2.1.2⟩)
theorem Zgr (W:World):Opn prog W 26 (fun l:List (Nod)=>[.sl 5 false (l.map nodA)]) (fun l=>l.length≤8796093022207∧∀ a∈l,OkN a):=Qgu (Zb5 W) (⟨0,0,0,[],[]⟩) Tryz.underlying26 (by kernel_rfl) (by decide) (Nat.le_of_ble_eq_true (by kernel_rfl))
theorem Zb6 (W:World):Opn prog W 28 fsyA OkF:=
 (Qcl (N:=2) Tryz.underlying28 (by kernel_rfl) (Qa0 (k:=1) (Zgr W) rfl (by kernel_rfl) (Qa0 (k:=1) (Qcv Tryz.underlying3) rfl (by kernel_rfl) (Qd0 2)))).map (fun g=>⟨g.1,g.2.1⟩) (fun _=>rfl) (fun a h=>⟨h.2.1,h.1.1,h.1.2⟩)
end Go.Proofs.YtahlldgocpabjaaGreat

namespace Go.Proofs.YtahlldgocpabjaaGreat
open Go Go.RowKit Copyhold Go.Proofs.Tryz
theorem Zk8 (W:World):Opn prog W 100 verA OkV:=
 (Qcl (N:=7) Tryz.underlying100 (by kernel_rfl) (Qa0 (k:=1) (Qcv Tryz.underlying3) rfl (by kernel_rfl) (Qa0 (k:=1) (Zgw Tryz.underlying4) rfl (by kernel_rfl) (Qa0 (k:=5) (Zb5 W) rfl (by kernel_rfl) (Qd0 7))))).map (fun g=>⟨g.1,g.2.1,g.2.2.1⟩) (fun _=>rfl) (fun a h=>⟨h.1,h.2.2.1⟩)
theorem Zgq (W:World):Opn prog W 96 (fun l:List (Ver)=>[.sl 7 false (l.map verA)]) (fun l=>l.length≤8796093022207∧∀ a∈l,OkV a):=Qgu (Zk8 W) (⟨0,false,⟨0,0,0,[],[]⟩⟩) Tryz.underlying96 (by kernel_rfl) (by decide) (Nat.le_of_ble_eq_true (by kernel_rfl))
theorem Zld (W:World):Opn prog W 98 chnA OkC:=
 (Qcl (N:=2) Tryz.underlying98 (by kernel_rfl) (Qa0 (k:=1) (Qcv Tryz.underlying3) rfl (by kernel_rfl) (Qa0 (k:=1) (Zgq W) rfl (by kernel_rfl) (Qd0 2)))).map (fun g=>⟨g.1,g.2.1⟩) (fun _=>rfl) (fun a h=>⟨h.1,h.2.1.1,h.2.1.2⟩)
theorem Zgv (W:World):Opn prog W 22 (fun l:List (Chn)=>[.sl 2 false (l.map chnA)]) (fun l=>l.length≤8796093022207∧∀ a∈l,OkC a):=Qgu (Zld W) (⟨0,[]⟩) Tryz.underlying22 (by kernel_rfl) (by decide) (Nat.le_of_ble_eq_true (by kernel_rfl))
theorem Zlc (W:World):Opn prog W 95 cntA OkK:=
 (Qcl (N:=2) Tryz.underlying95 (by kernel_rfl) (Qa0 (k:=1) (Qcv Tryz.underlying3) rfl (by kernel_rfl) (Qa0 (k:=1) (Qcv Tryz.underlying3) rfl (by kernel_rfl) (Qd0 2)))).map (fun g=>⟨g.1,g.2.1⟩) (fun _=>rfl) (fun a h=>⟨h.1,h.2.1⟩)
theorem Zgu (W:World):Opn prog W 23 (fun l:List (Cnt)=>[.sl 2 false (l.map cntA)]) (fun l=>l.length≤8796093022207∧∀ a∈l,OkK a):=Qgu (Zlc W) (⟨0,0⟩) Tryz.underlying23 (by kernel_rfl) (by decide) (Nat.le_of_ble_eq_true (by kernel_rfl))
theorem Zla (W:World):Opn prog W 25 stoA OkS:=
 (Qcl (N:=3) Tryz.underlying25 (by kernel_rfl) (Qa0 (k:=1) (Zgv W) rfl (by kernel_rfl) (Qa0 (k:=1) (Zgu W) rfl (by kernel_rfl) (Qa0 (k:=1) (Qcv Tryz.underlying3) rfl (by kernel_rfl) (Qd0 3))))).map (fun g=>⟨g.1,g.2.1,g.2.2.1⟩) (fun _=>rfl) (fun a h=>⟨h.2.2.1,h.1.1,h.2.1.1,h.1.2,h.2.1.2⟩)
end Go.Proofs.YtahlldgocpabjaaGreat
