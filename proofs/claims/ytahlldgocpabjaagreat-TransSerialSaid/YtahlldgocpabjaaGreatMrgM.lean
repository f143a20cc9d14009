import Derived.Test.YtahlldgocpabjaaGreatAl
import Derived.Test.YtahlldgocpabjaaGreatMrgL
import Derived.Test.YtahlldgocpabjaaGreatMrgG
import Derived.RangeFuncNested
import Derived.RangeFuncBound
import Derived.RangeFuncCalls
import Derived.RangeFuncLeaves
import Derived.RangeFuncBox
import Derived.Shelf.Abstract
import Derived.Shelf.RegionOpen
import Derived.OwnWalkIn
import Derived.TacticsInMore
import Derived.LoopNIn
import Derived.LoopIn
import Derived.Test.YtahlldgocpabjaaGreatMrgK
set_option maxRecDepth 100000
set_option maxHeartbeats 8000000
set_option linter.unusedVariables false
namespace Go.Proofs.YtahlldgocpabjaaGreat
open Go.RowKit Copyhold Copyhold.Name
theorem Zge (l:List Name.Ent) (s:List UInt8) (k:Nat) (hk:k<l.length):isAt (l.take (k+1)) s=(isAt (l.take k) s||l[k].1==s):=by
 unfold isAt;rw [W15 hk,List.any_append];simp
theorem Zgq (l:List Name.Ent) (s:List UInt8) (k:Nat) (hk:k<l.length) (h:isAt (l.take k) s=false) (he:l[k].1=s):getE l s=some l[k].2∧isAt l s=true:=by
 have hg:getE l s=some l[k].2:=by
  unfold getE;have hs:l=l.take k++l[k] :: l.drop (k+1):=by rw [← List.drop_eq_getElem_cons hk,W1h]
  have hn:(l.take k).find? (fun x=>x.1==s)=none:=by
   rw [W11];intro x hx e;rw [Bool.eq_false_iff] at h;exact h (Qky.2 ⟨x,hx,by simpa using e⟩)
  generalize l[k]=y at *;rw [hs,List.find?_append,hn];simp [he]
 exact ⟨hg,by rw [get_some,hg];rfl⟩
theorem Zbo (l:List Name.Ent) (s:List UInt8) (A:Option Addr) (c:Nat) (w:World) (hl:Ents w (.slice A l.length c) l) (hn:l.length≤1000000) :
  Calls Tryz.prog 115 #[.slice A l.length c,.string ⟨s.toArray⟩] w fun e w'=>e=.returned (Qxq l s)∧w=w':=by
 have HL:=Lib.hid hl;clear hl
 go_enter Tryz.func115,Tryz.ntmps115
 go_wp2_with fail
 go_loop [6] (fun si=>∃ k:Nat,si=.int .i64 k∧k≤l.length∧isAt (l.take k) s=false) (fun si=>l.length-(intOf si).toNat)
 case atStart=>exact ⟨0,rfl,W0j _,by simp [isAt]⟩
 case round=>
  obtain ⟨k,rfl,hk,hp⟩:=hrel;have HP:=Lib.hid hp;clear hp;by_cases hlt:k<l.length
  ·obtain ⟨b,off,rfl,hbk,hc,hc1,hc2⟩:=HL.out.at k hlt;have hst:=Zge l s k hlt;rw [HP.out,W0u] at hst;have HG:=Lib.hid (Zgq l s k hlt HP.out);have HST:=Lib.hid hst;clear hst;generalize l[k]=x at *;by_cases he:x.1=s
   ·obtain ⟨g1,g2⟩:=HG.out he;have HF:Hid (Qxq l s=.tuple #[.int .i64 x.2,.bool true]):=Lib.hid (by rw [Qxq,g1,g2];rfl);rw [he] at hc1;clear g1 g2 he
    go_wp2_with fail
    go_ret2
    exact ⟨by rw [HF.out];rfl,rfl⟩
   ·have hq:(x.1==s)=false:=by simpa using he
    have HS:=Lib.hid (HST.out.trans hq);clear he
    go_wp2_with fail
    go_round
    case rel=>exact ⟨k+1,by go_num,by omega,HS.out⟩
    case measure=>simp [intOf];omega
  ·have hfin:isAt l s=false:=by have:=HP.out;rwa [W1b (by omega)] at this
   have HF:Hid (Qxq l s=.tuple #[.int .i64 0,.bool false]):=Lib.hid (by rw [Qxq,hfin,Qr4 hfin];rfl);clear hfin
   go_wp2_with fail
   go_ret2
   exact ⟨by rw [HF.out];rfl,rfl⟩
end Go.Proofs.YtahlldgocpabjaaGreat

namespace Go.Proofs.YtahlldgocpabjaaGreat
open Go.RowKit Go.Shelf Copyhold Copyhold.Name
attribute [local go_sem] Oper.semAt_some
theorem Zko (n:Nat) (hn:1≤n) (l Bs n₀ c:Nat) (A:Option Addr) (es:List Name.Ent) (hlen:es.length≤1000000) (J Jx:List (List UInt8)→World→Prop)
  (hY:∀ pre x W,J pre W→pre.length<es.length→YieldAt Fence.wide (n-1) Tryz.prog l #[.string ⟨x.toArray⟩] W fun e W'=>
   (e=.returned (.bool true)∧J (pre++[x]) W'∧Below n₀ W W')∨(e=.returned (.bool false)∧Jx (pre++[x]) W'))
  (hJa:∀ pre W o,J pre W→J pre (W.alloc o))
  (W:World) (hn0:n₀≤W.heap.size) (hBs:W.cell? ⟨Bs,0,none⟩=some (.slice A es.length c)) (hE:Ents W (.slice A es.length c) es) (hat:At (·<n₀) (.slice A es.length c)) (h0:J [] W) :
  CallsIn Fence.wide n Tryz.prog 225 #[.func (.yield l) #[] #[],.pointer (some ⟨Bs,0,none⟩)] W fun e W'=>(∃ v,e=.returned v) ∧
   ((∃ ys,ys=es.map (·.1)∧J ys W')∨(∃ pre,pre <+: es.map (·.1)∧Jx pre W')):=by
 have HE:=Lib.hid hE;have HAT:=Lib.hid hat;clear hE hat;refine callsIn_of_wp Tryz.func225 rfl trivial ?_ rfl;simp only [Tryz.ntmps225,W2i,W0b,W0f,Nat.reduceAdd,Nat.reduceSub,Array.replicate_succ,Array.replicate_zero,List.push_toArray,List.append_toArray,W1w,List.cons_append]
 gi_wp2
 gi_loopw [7] (fun i wr=>∃ k:Nat,k≤es.length∧i=.int .i64 k∧J ((es.take k).map (·.1)) wr∧Below n₀ W wr∧W.heap.size≤wr.heap.size)
  (fun i _=>es.length-(intOf i).toNat)
 case atStart=>exact ⟨0,W0j _,rfl,by simpa using h0,Below.refl _ _,W0m _⟩
 case round=>
  obtain ⟨k,hk,rfl,hJs,hnx,hsz⟩:=hrel;by_cases hlt:k<es.length
  ·have hE':Ents wr (.slice A es.length c) es:=Sl.frame HE.out HAT.out (fun b hb _=>hnx.block b hb) hsz;obtain ⟨b,off,hA,hbk,hc,hc1,hc2⟩:=hE'.at k hlt;subst hA;have hst:(es.take (k+1)).map (·.1)=(es.take k).map (·.1)++[es[k].1]:=by
    rw [W15 hlt,W1t];rfl
   have HST:=Lib.hid hst;have hJa':=hJa _ _ (.cells #[strV es[k].1,.int .i64 es[k].2] 128) hJs;have hll:((es.take k).map (·.1)).length<es.length:=by simp;omega
   obtain ⟨fn,tmps,assign,body,hy,hR⟩:=hY _ es[k].1 _ hJa' hll;have HR:=Lib.hid hR;have HNX:=Lib.hid hnx;have HPP:Hid ((es.take (k+1)).map (·.1) <+: es.map (·.1)):=Lib.hid ((List.take_prefix _ _).map _);clear hE' hst hJa' hll hR hnx hJs hY;unfold strV at hy HR;generalize es[k]=x at *
   gi_wp2
   refine HR.out.mono ?_;rintro e W3 (⟨rfl,hJ3,hk3⟩ | ⟨rfl,hJx3⟩)
   ·have hn3:Below n₀ W W3:=(HNX.out.alloc (by omega) _).trans hk3;have hs3:=hk3.size
    gi_wp2
    go_roundw
    case rel=>exact ⟨k+1,by omega,by go_num,by rw [HST.out];exact hJ3,hn3,by simp at hs3;omega⟩
    case measure=>simp [intOf];omega
   ·gi_wp2
    refine bodyPost_ret (results_none rfl _ _ _) rfl ?_;exact ⟨⟨_,rfl⟩,.inr ⟨_,by rw [← HST.out];exact HPP.out,hJx3⟩⟩
  ·obtain rfl:k=es.length:=by omega
   have hfin:(es.take es.length).map (·.1)=es.map (·.1):=by rw [W13]
   have HF:=Lib.hid hfin;clear hfin
   gi_wp2
   go_end0
   exact ⟨⟨_,rfl⟩,.inl (by rw [← HF.out];exact hJs)⟩
theorem Qvu {β:Type} {B:Nat} {J:β→World→Prop} (h:AbidesFrom B J) {s:β} {W:World} (o:Obj) (hs:J s W):J s (W.alloc o):=
 h s W _ none hs (World.grownBy_alloc W o none) (fun r e=>by cases e)
theorem Zol (n:Nat) (A:Option Addr) (m c:Nat) (w:World) :
  CallsIn Fence.wide n Tryz.prog 192 #[.slice A m c] w fun e w'=>e=.returned (.func (.func 225) #[] #[.pointer (some ⟨w.heap.size,0,none⟩)])∧w'=w.alloc (.cells #[.slice A m c] 82):=by
 refine callsIn_of_wp Tryz.func192 rfl trivial ?_ rfl;simp only [Tryz.ntmps192,W2i,W0b,W0f,Nat.reduceAdd,Nat.reduceSub,Array.replicate_succ,Array.replicate_zero,List.push_toArray,List.append_toArray,W1w,List.cons_append]
 gi_wp2
 go_ret
 exact ⟨rfl,rfl⟩
theorem Zcj (n:Nat) (hn:1≤n) (Bs n₀ c:Nat) (A:Option Addr) (es:List Name.Ent) (hlen:es.length≤1000000) (w:World) (hBs:Bs<w.heap.size) (hn₀:n₀≤w.heap.size)
  (hc:w.cell? ⟨Bs,0,none⟩=some (.slice A es.length c)) (hE:Ents w (.slice A es.length c) es) (hat:At (·<n₀) (.slice A es.length c)) :
  SeqStopsK Fence.wide n Tryz.prog 225 #[.pointer (some ⟨Bs,0,none⟩)] (fun x:List UInt8=>#[Value.string ⟨x.toArray⟩]) (Below n₀) (fun ys=>ys=es.map (·.1)) (fun pre=>pre <+: es.map (·.1)) es.length w:=fun l J Jx W hW hJ _ hY h0=>
 Zko n hn l Bs n₀ c A es hlen J Jx hY (fun pre W o h=>Qvu hJ o h) W (W1a hn₀ hW.size) ((hW.cell (p:=⟨Bs,0,none⟩) hBs).trans hc) (hE.below hW) hat h0
theorem Zj9:(Tryz.prog.info? 9).map (fun i=>(i.zero,i.size,i.bytes))=some (some (.string ⟨#[]⟩),1,16):=by kernel_rfl
theorem Zlu (n:Nat) (hn:3≤n) (A:Option Addr) (c:Nat) (es:List Name.Ent) (hlen:es.length≤1000000) (w:World) (hE:Ents w (.slice A es.length c) es) :
  CallsIn Fence.wide n Tryz.prog 149 #[.slice A es.length c] w fun e W'=>∃ v,e=.returned v∧W'.ownsRow w.heap.size 9 1 v es.length (es.map fun x=>strV x.1)∧Below w.heap.size w W':=by
 have h1:1≤n:=by omega
 obtain ⟨i0,hi,hz0,hz1,hz2⟩:=info_parts Zj9;obtain ⟨w1,hmk,hown1,hgr1⟩:=Zb6 Ziq w w.heap.size es.length (by omega) (by unfold maxLen;omega) (W0m _);have hb1:=(Below.refl w.heap.size w).grown hgr1 (W0m _) (fun g hg=>by cases hg);refine callsIn_of_wp_marks Tryz.func149 rfl trivial ?_ rfl;simp only [Tryz.ntmps149,W2i,W0b,W0f,Nat.reduceAdd,Nat.reduceSub,Array.replicate_succ,Array.replicate_zero,List.push_toArray,List.append_toArray,W1w,List.cons_append]
 gi_wp2_with (refine ⟨trivial,?_⟩;gi_at_call 192;refine (Zol (n-1) A es.length c _).mono ?_;rintro e w' ⟨rfl,rfl⟩)
 obtain ⟨v1,hv1⟩:∃ v,v=Value.slice (some ⟨w.heap.size,0,none⟩) 0 es.length:=⟨_,rfl⟩
 rw [← hv1] at hown1 ⊢;clear hv1 hmk hgr1;have bO:=Boxed.new w1 43 v1;have bN:=Boxed.new (w1.alloc (.cells #[v1] 43)) 82 (.slice A es.length c);rw [World.size_alloc] at bN;have hB0:Below w.heap.size w ((w1.alloc (.cells #[v1] 43)).alloc (.cells #[.slice A es.length c] 82)):=(hb1.alloc hb1.size _).alloc (by have:=hb1.size;simp;omega) _;have hE0:Ents ((w1.alloc (.cells #[v1] 43)).alloc (.cells #[.slice A es.length c] 82)) (.slice A es.length c) es:=hE.below hB0;refine wpIn_rangeFunc_ownG rfl h1 (gf:=225) (lb:=#[.pointer (some ⟨w1.heap.size+1,0,none⟩)]) rfl trivial (enters_of Tryz.func225 (by kernel_rfl) rfl)
  (Zcj (n-1) (by omega) (w1.heap.size+1) w.heap.size c A es hlen _ (by simp) (by have:=hb1.size;simp;omega) bN.cell hE0 hE.lies) belowK_t (belowK_b (by have:=hb1.size;simp;omega)) (Below.refl _ _) (fun _=>rfl)
  (fun (pre:List (List UInt8)) W=>(∃ v,Boxed W w1.heap.size 43 v∧W.ownsRow w.heap.size 9 1 v pre.length (pre.map strV)∧True)∧Below w.heap.size w W)
  (fun _ _ _=>False)
  (OwnFrom.and (Own.from (holdsRow_own w.heap.size w1.heap.size 43 9 1 (fun (pre:List (List UInt8))=>pre.length) (fun pre=>pre.map strV) (fun pre v=>True)) _) (ownFrom_below (W0m _) (by have:=hb1.size;simp;omega)))
  (fun _ _ _ _ _ hs _ _=>hs)
  ⟨⟨_,bO.alloc _,(hown1.alloc _).alloc _,trivial⟩,hB0⟩
  (fun (x:List UInt8)=>{ tmps:=#[.slice A es.length c,undef,.slice none 0 0,.pointer (some ⟨w1.heap.size,0,none⟩),.string ⟨x.toArray⟩,.slice A es.length c,.int .i64 es.length,v1,.slice A es.length c,.func (.func 225) #[] #[.pointer (some ⟨w1.heap.size+1,0,none⟩)],.string ⟨x.toArray⟩,undef,undef,undef,undef,undef],defers:=[] }) ?assign ?body ?done ?stop
 case assign=>
  intro l x W K hK
  gi_wp2
  exact hK
 case body=>
  rintro l pre x W ⟨⟨v,hv,hrow,-⟩,hB⟩ hlt;have hc:=hv.cell
  gi_wp2_with (gi_at_builtin;refine wpListIn_append_own _ rfl _ _ 43 rfl w.heap.size 9 i0 (.string ⟨#[]⟩) 1 16 Tryz.underlying43 hi hz0 hz1 hz2 rfl (by decide) _ _ _ rfl (hrow.alloc _) ⟨W.heap.size,0,none⟩ 1 1 [.string ⟨x.toArray⟩] rfl rfl (cell_one_new _ _ _) (by simp [Value.oneCell']) (by unfold maxLen;omega) (by omega) (by have:=hB.size;simp;omega) ?_;intro v' w1' hown' hgrow _;obtain ⟨g',cap',rfl⟩:=ownsRow_succ hown';obtain ⟨hv1',hv2,hr2,hk2,hb2⟩:=hv.appended (by decide) hrow hB.size hb1.size hown' hgrow;have hc1:=hv1'.cell;have hf1:=hv1'.frozen)
  exact ⟨hk2.from _,hb2,⟨_,hv2,by simpa [strV] using hr2,trivial⟩,hB.trans hb2⟩
 case done=>
  rintro D ys W hD rfl ⟨⟨v,hv,hrow,-⟩,hB⟩ hK;have hc:=hv.cell
  gi_wp2
  refine ⟨by simp,.inl ⟨_,_,rfl,run_takeDeferred hK,?_⟩⟩;have hr:=ownsRow_putObj hrow (Obj.deferred none) hK rfl;rw [W0a,List.map_map] at hr;exact ⟨_,results_tmp rfl _ _ _,v,rfl,hr,hB.trans (belowK_b (w:=w) (W0m _) W D _ _ (by have:=hb1.size;simp at hD;omega) hK rfl rfl)⟩
 case stop=>
  rintro D c pre W _ _ h _;exact h.elim
end Go.Proofs.YtahlldgocpabjaaGreat

set_option linter.unusedSimpArgs false
namespace Go.Proofs.YtahlldgocpabjaaGreat
open Go Go.RowKit Copyhold Copyhold.Name
abbrev NEnt:=Copyhold.Name.Ent
def entO (x:NEnt):Ent:=⟨x.1,x.2⟩
def lI (l:List Ent):List NEnt:=l.map fun e=>((e.name,e.ino):NEnt)
theorem lI_O (l:List Ent):(lI l).map entO=l:=by
 unfold lI;rw [List.map_map];have:(entO ∘ fun e:Ent=>((e.name,e.ino):NEnt))=id:=by funext e;rfl
 rw [this,List.map_id]
theorem Ql4 {s:Txt}:okN s=true↔Qo4 s:=by
 simp only [okN,Qo4,W0r,Bool.not_eq_true',W2o,beq_eq_false_iff_ne,ne_eq];constructor
 ·rintro ⟨⟨⟨⟨⟨h1,h2⟩,h3⟩,h4⟩,h5⟩,h6⟩;exact ⟨h1,h2,h3,h4,by simpa using h5,by simpa using h6⟩
 ·rintro ⟨h1,h2,h3,h4,h5,h6⟩;exact ⟨⟨⟨⟨⟨h1,h2⟩,h3⟩,h4⟩,by simpa using h5⟩,by simpa using h6⟩
theorem Qyu (l:List NEnt):rightE l=true↔rowP (l.map entO):=by
 simp only [rightE,rowP,W0r,W2o,W10,List.mem_range,W0a];refine and_congr_right fun _=>⟨fun h i e he=>?_,fun h i hi=>?_⟩
 ·rw [W0v] at he;cases hx:l[i]? with
  | none=>rw [hx] at he;cases he
  | some x=>
   rw [hx] at he;obtain rfl:=W0c he;have:=h i (Qap hx);simp only [okAt,hx,W0r,okE,W2o] at this;refine ⟨Ql4.1 this.1.1,this.1.2,fun d h0 hd=>?_⟩;rw [W0v] at hd;cases hy:l[i-1]? with
   | none=>rw [hy] at hd;cases hd
   | some y=>
    rw [hy] at hd;obtain rfl:=W0c hd;have hu:=this.2;simp only [upAt,hy,W16,beq_iff_eq,W2o] at hu;show Op.bytesLess y.1 x.1=true;rw [Qoc];exact decide_eq_true (hu.resolve_left (by omega))
 ·have hx:=W0d hi;have:=h i (entO l[i]) (by rw [W0v,hx];rfl);simp only [okAt,hx,W0r,okE,W2o];refine ⟨⟨Ql4.2 this.1,this.2.1⟩,?_⟩;simp only [upAt,W16,beq_iff_eq];by_cases h0:i=0
  ·exact .inl h0
  ·have hy:=W0d (l:=l) (i:=i-1) (by omega);right;rw [hy];have h2:=this.2.2 (entO l[i-1]) (by omega) (by rw [W0v,hy];rfl);have h3:Op.bytesLess l[i-1].1 l[i].1=true:=h2;rw [Qoc] at h3;exact h3
theorem Zmv {D:Nat→Prop} {w:World} {vals us:List Value} (hl:us.length=vals.length) (h:∀ (j:Nat) (a:AV) (u:Value),(vals.map AV.val)[j]?=some a→us[j]?=some u→Ra D w a u):us=vals:=by
 apply List.ext_getElem?;intro j;by_cases hj:j<vals.length
 ·have h1:=W0d hj;have h2:=W0d (l:=us) (i:=j) (by omega);have:=h j (.val vals[j]) us[j] (by rw [W0v,h1];rfl) h2;rw [h1,h2];generalize us[j]=u at this;cases this;rfl
 ·rw [W1i (by omega),W1i (by omega)]
theorem Zg5 (l:List Ent):(l.map entA).flatten=((l.map fun e=>((e.name,e.ino):NEnt)).flatMap Copyhold.Name.entC).map AV.val:=by
 induction l with
 | nil=>rfl
 | cons e r ih=>
  simp only [W1u,W1g,List.flatMap_cons,W1t,ih];rfl
theorem Qdc {l:List Ent} (h:rowP l):Srt (lI l):=Zee ((Qyu (lI l)).2 (by rw [lI_O];exact h))
def getI (l:List Ent) (s:Txt):Int:=(getE (lI l) s).getD 0
def isB (l:List Ent) (s:Txt):Bool:=isAt (lI l) s
theorem Qr7 {l:List Ent} {s:Txt} (h:isB l s=false):getI l s=0:=by
 unfold getI isB at *;unfold isAt at h;unfold getE;rw [W11.2 fun x hx=>by simpa using W2d.1 h x hx];rfl
theorem Qje {D:Nat→Prop} {w:World} {t:Bool} {l:List Ent} {v:Value} (h:Ra D w (.sl 2 t (l.map entA)) v):∃ A c,v=.slice A (lI l).length c∧Ents w v (lI l):=by
 obtain ⟨us,hsl,hus,hru⟩:=Qg7 h;rw [Zg5] at hru;have hsl0:=hsl;obtain ⟨A,cc,rfl,hc,hl,hh⟩:=hsl0;have hlen:∀ l:List NEnt,(l.flatMap Copyhold.Name.entC).length=l.length*2:=fun l=>by
  induction l with
  | nil=>rfl
  | cons y r ih=>simp only [List.flatMap_cons,W0e,ih,W0b];simp [Copyhold.Name.entC];omega
 have e:=Zmv (by rw [hlen,hl];simp) hru;subst e;simp only [W0a] at hsl ⊢;have hn:(lI l).length=l.length:=by simp [lI]
 refine ⟨A,cc,by rw [hn],?_⟩;show Sl w 2 _ (lI l).length _;rw [hn];exact hsl
theorem Qg4 (a b:Value) (D:Nat→Prop) (w:World):Ra D w (.tup [.val a,.val b]) (.tuple #[a,b]):=.tup _ _ rfl fun j x v hx hv=>by
 match j,hx,hv with
 | 0,hx,hv=>cases hx;cases hv;exact .val _
 | 1,hx,hv=>cases hx;cases hv;exact .val _
 | j+2,hx,_=>simp at hx
theorem Qco {P:Program} {f:FuncId} {args:List AV} {r:AV} {v:Value} (hr:∀ D w,Ra D w r v) (h:∀ D w vs,Qdj D w args vs→Calls P f vs w (fun e w'=>e=.returned v∧Below w.heap.size w w')):Qai P f args r:=fun D w vs hD hv=>
 (h D w vs hv).mono fun e w' ⟨h1,h2⟩=>⟨v,D,h1,h2,fun _ h=>h,fun b hb=>⟨W09 (hD b hb) h2.size,.inl hb⟩,hr D w'⟩
theorem Qgs (l:List Ent) (s:Txt) (hl:l.length≤1000000) (hr:Srt (lI l)):Qai Tryz.prog 96 [.sl 2 false (l.map entA),aS s] (.tup [aI (getI l s),aB (isB l s)]):=Qco (Qg4 _ _) fun D w vs h=>by
 obtain ⟨u,v,rfl,hu,hv⟩:=Qdj.two h;cases hv;obtain ⟨A,c,rfl,he⟩:=Qje hu;exact Zfl (lI l) s A c w he (by simp [lI];omega) hr
theorem Qen (l:List Ent) (s:Txt) (hl:l.length≤1000000):Qai Tryz.prog 115 [.sl 2 false (l.map entA),aS s] (.tup [aI (getI l s),aB (isB l s)]):=Qco (Qg4 _ _) fun D w vs h=>by
 obtain ⟨u,v,rfl,hu,hv⟩:=Qdj.two h;cases hv;obtain ⟨A,c,rfl,he⟩:=Qje hu;exact (Zbo (lI l) s A c w he (by simp [lI];omega)).mono fun e w' ⟨g1,g2⟩=>⟨g1,g2 ▸ Below.refl _ _⟩
theorem Zip {D:Nat→Prop} {w:World} {l:List Txt} {v:Value} (h:Row w v (l.map strV)) (hat:At D v):Ra D w (.sl 1 false (l.map txA)) v:=by
 rcases h with ⟨a,c,rfl,he⟩ | ⟨b,off,cap,rfl,h0,hc,hb,hcell⟩
 ·have:l=[]:=by simpa using he
  subst this;exact .sl 1 false [] a c 0 0 (fun _ _=>undef) (W0j _) (fun h=>by cases h) (fun h=>absurd h (by simp)) (fun i e h=>by simp at h) (fun i e j x h=>by simp at h) (fun i e j x h=>by simp at h)
 ·have key:∀ (i:Nat) (e:List AV) (j:Nat) (x:AV),(l.map txA)[i]?=some e→e[j]?=some x→∃ y,l[i]?=some y∧j=0∧x=aS y:=by
   intro i e j x he hx;rw [W0v] at he;cases hli:l[i]? with
   | none=>rw [hli] at he;cases he
   | some y=>
    rw [hli] at he;obtain rfl:=W0c he
    match j,hx with
    | 0,hx=>obtain rfl:=W0c hx;exact ⟨y,rfl,rfl,rfl⟩
    | j+1,hx=>simp [txA] at hx
  have:=Ra.sl (D:=D) (w:=w) 1 false (l.map txA) (some ⟨b,off,none⟩) cap b off (fun i _=>strV (l.getD i [])) (by simpa using hc) (fun h=>by cases h) (fun _=>⟨rfl,hat h0,hb⟩)
   (fun i e he=>by
    rw [W0v] at he;cases hli:l[i]? with
    | none=>rw [hli] at he;cases he
    | some y=>rw [hli] at he;obtain rfl:=W0c he;rfl)
   (fun i e j x he hx=>by
    obtain ⟨y,h1,rfl,rfl⟩:=key i e j x he hx;simp only [List.getD,h1,W2k];refine ⟨?_,rfl⟩;have:=hcell i (strV y) (by rw [W0v,h1];rfl);rw [show off+(i*1+0)=off+i from by omega];exact this)
   (fun i e j x he hx=>by
    obtain ⟨y,h1,rfl,rfl⟩:=key i e j x he hx;simp only [List.getD,h1,W2k];exact .val _)
  simp only [W0a] at this ⊢;exact this
theorem Zo5 {D1 D2 D3:Nat→Prop} {v:Value} (h1:At D1 v) (h2:At D2 v) (h:∀ b,D1 b→D2 b→D3 b):At D3 v:=by
 unfold At at h1 h2 ⊢
 split
 ·exact fun h0=>h _ (h1 h0) (h2 h0)
 ·trivial
end Go.Proofs.YtahlldgocpabjaaGreat

namespace Go.Proofs.YtahlldgocpabjaaGreat
open Go Go.RowKit Copyhold Go.Proofs.Tryz
def Qax (l:List Int):Int:=(l.find? fun z=>z != 0).getD 0
def Qag (b:Bool) (e:Int):Int:=if b then e else 0
theorem Zkg {l:List Int} (h:AllQ (fun _ z=>(z != 0)=false) l):Qax l=0:=by
 unfold Qax;rw [W11.2 fun x hx=>by obtain ⟨j,hj⟩:=W0w hx;rw [h j x hj];simp];rfl
theorem Qzy:∀ {l:List Int} {k:Nat} {x:Int},Qba (fun _ z=>(z != 0)=false) l k→l[k]?=some x→(x != 0)=true→Qax l=x
 | y :: r,0,x,_,hx,hp=>by simp at hx;subst hx;simp [Qax,hp]
 | y :: r,k+1,x,h,hx,hp=>by
  have h1:=h 0 y (by omega) rfl;have h2:=Qzy (l:=r) (k:=k) (fun j e hj he=>h (j+1) e (by omega) (by simpa using he)) (by simpa using hx) hp;unfold Qax at h2 ⊢;rw [W1f,h1];exact h2
theorem Qou {t:Bool} (a b c:Int):Sub (.sl 1 t [[aI a],[aI b],[aI c]]) (.sl 1 false ([a,b,c].map intA)):=W2r _ _ _
theorem Qqj {t:Bool} (a b:Int):Sub (.sl 1 t [[aI a],[aI b]]) (.sl 1 false ([a,b].map intA)):=W2r _ _ _
theorem Qqk {a b:Int}:Qax [a,b]=if a=0 then b else a:=by
 unfold Qax;by_cases h:a=0
 ·by_cases h2:b=0
  ·simp [h,h2]
  ·simp [h,h2]
 ·simp [h]
theorem Qjr {a b c:Int}:Qax [a,b,c]=if a=0 then (if b=0 then c else b) else a:=by
 unfold Qax;by_cases h:a=0
 ·by_cases h2:b=0
  ·by_cases h3:c=0
   ·simp [h,h2,h3]
   ·simp [h,h2,h3]
  ·simp [h,h2]
 ·simp [h]
def dirE (f:Fsy) (i:Int):Int:=if Qav f i=true then (if (Qaa f i).kind=2 then 0 else 8) else 6
def dirN (f:Fsy) (i:Int):Nod:=if dirE f i=0 then Qaa f i else nod0
theorem Zml {f:Fsy} {i:Int} (h:Qav f i=false):dirE f i=6∧dirN f i=nod0:=by
 have e:dirE f i=6:=by unfold dirE;rw [h];rfl
 exact ⟨e,by unfold dirN;rw [e];rfl⟩
theorem Zmk {f:Fsy} {i:Int} (h:Qav f i=true) (h2:¬ (Qaa f i).kind=2):dirE f i=8∧dirN f i=nod0:=by
 have e:dirE f i=8:=by unfold dirE;rw [W1y h,W1x h2]
 exact ⟨e,by unfold dirN;rw [e];rfl⟩
theorem Qz7 {f:Fsy} {i:Int} (h:Qav f i=true) (h2:(Qaa f i).kind=2):dirE f i=0∧dirN f i=Qaa f i:=by
 have e:dirE f i=0:=by unfold dirE;rw [W1y h,W1y h2]
 exact ⟨e,by unfold dirN;rw [e];rfl⟩
theorem Qf3 {f:Fsy} {i:Int} (h:Qav f i=true):Qaa f i∈f.l:=by
 unfold Qav at h;unfold Qaa;cases hf:f.l.find? (isNo i) with
 | none=>rw [W11] at hf;obtain ⟨x,hx,hi⟩:=List.any_eq_true.1 h;exact absurd hi (hf x hx)
 | some n=>exact W1o hf
theorem Qy8 {n:Nod} (h:nodP n):Name.Srt (lI n.l)∧n.l.length≤256:=by
 rcases h.2.2.2 with ⟨_,_,h⟩ | ⟨_,_,h⟩
 ·exact ⟨Qdc h,h.1⟩
 ·rw [h];exact ⟨List.Pairwise.nil,by decide⟩
theorem Qdo {f:Fsy} (h:Qan f) (i:Int):Name.Srt (lI (dirN f i).l)∧(dirN f i).l.length≤256:=by
 unfold dirN
 split
 ·rename_i e;by_cases hb:Qav f i=true
  ·exact Qy8 ((Qbx.1 h).2.2.1 _ (Qf3 hb)).1
  ·unfold dirE at e;rw [W1x hb] at e;cases e
 ·exact ⟨List.Pairwise.nil,by decide⟩
theorem Zgy {f:Fsy} (h:Qan f):Qav f 0=false:=by
 unfold Qav;rw [W2d];intro n hn;have:=((Qbx.1 h).2.2.1 n hn).1.1;have hne:¬ n.ino=0:=by omega
 simp [isNo,hne]
def Qd3 (f:Fsy) (i:Int) (s:Txt):Int:=getI (dirN f i).l s
noncomputable def Qa4 (f:Fsy) (i:Int) (s:Txt):Int:=Qax [dirE f i,Qak s,Qag (!(Qav f (Qd3 f i s))) 6]
noncomputable def lookN (f:Fsy) (i:Int) (s:Txt):Nod:=if Qa4 f i s=0 then Qaa f (Qd3 f i s) else nod0
theorem Qlw {f:Fsy} {i:Int} {s:Txt} (h:¬ Qa4 f i s=0):lookN f i s=nod0:=W1x h
theorem Qru {f:Fsy} {i:Int} {s:Txt} (h:Qa4 f i s=0):lookN f i s=Qaa f (Qd3 f i s):=W1y h
theorem Qd6 {n:Nod} (h:n=nod0):Sub (.agg [aI 0,aI 0,aI 0,aS [],aN]) (.agg (nodA n)):=by
 subst h;exact W2t ⟨sR,sR,sR,sR,Sub.nil _ _,trivial⟩
theorem Qcu (l:List Int) (hl:l.length≤100000):Qai prog 181 [.sl 1 false (l.map intA)] (aI (Qax l)):=by
 exact Qae func181 (
 .r 1<|.r 2<|.lm 6 l intA<|.r 1<|let L1:Lp (Nat):=⟨fun a1=>⟨[(5,.sl 1 false (l.map intA)),(6,aI (l.length:Int)),(7,aI (a1:Int))],[]⟩,fun a1=>l.length-a1,fun a1=>Qba (fun _ z=>(z != 0)=false) l a1⟩
 .lp L1 0 (show Qba (fun _ z=>(z != 0)=false) l 0 from Qba.zero _ _) [(7,aI 0)] [] ⟨sR,sR,sO,trivial⟩ trivial fun a1 ha1=>
 (fun (k:Nat) (hH1:Qba (fun _ z=>(z != 0)=false) l k)=>.r 1<|.br 8 (decide ((k:Int)<(l.length:Int))) (fun q1=>have p1:=decT q1;.idxM l intA k (m:=(k:Int)) rfl (by omega) fun x1 hx1=>
 .r 2<|.r 2<|.br 12 (x1 != 0) (fun q2=>have p2:=bneT q2;.r 2<|.f (aI (Qax l)) [] (aI x1) (by exact W2p (W1z aI (Qzy hH1 hx1 (by assumption)).symm)))
 <| fun q2=>have p2:=bneF q2;.run 2 [rng .i64 ((k:Int)+1)] ⟨Qah,trivial⟩<|
 .bk L1 k (k+1) (show Qba (fun _ z=>(z != 0)=false) l (k+1) from (hH1.step hx1 (by assumption))) (show l.length-(k+1)<l.length-k from (by omega)) [(7,aI ((k:Int)+1))] [] ⟨sR,sR,sO,trivial⟩ trivial)
 <| fun q1=>have p1:=decF q1;.r 1<|.f (aI (Qax l)) [] (aI 0) (by exact W2p (W1z aI (Zkg (hH1.full (by omega))).symm))) a1 ha1)
theorem Qbw (b:Bool) (e:Int):Qai prog 182 [aB b,aI e] (aI (Qag b e)):=by
 exact Qae func182 (
 .r 1<|.r 1<|.bb 5 b (fun p1=>.r 2<|.f (aI (Qag b e)) [] (aI e) (by exact W2p (W1z aI (by unfold Qag;simp [*]))))
 <| fun p1=>.r 1<|.f (aI (Qag b e)) [] (aI 0) (by exact W2p (W1z aI (by unfold Qag;simp [*]))))
theorem Qjg (f:Fsy) (i:Int) (hp:Qan f):Qai prog 95 [.agg (fsyA f),aI i] (.tup [.agg (nodA (dirN f i)),aI (dirE f i)]):=by
 have hl:=hp.1;have hr:=Qaf hp;exact Qae func95 (
 .new fun b1=>.new fun b2=>.r 1<|.u 2 [b1]<|
 .call (Qcp f i (by omega) hr)<|
 .r 3<|.new fun b3=>.u 2 [b3]<|
 .r 2<|.br 15 (!(Qav f i)) (fun q1=>have q1:=notT q1;have p1:=booF q1;.u 3 [b2]<|
 .f (.tup [.agg (nodA (dirN f i)),aI (dirE f i)]) [b2] (.tup [.agg [aI 0,aI 0,aI 0,aS ([]),aN],aI 6]) (by
  obtain ⟨e1,e2⟩:=Zml q1;exact W2s ⟨Qd6 e2,W2p (W1z aI e1.symm),trivial⟩))
 <| fun q1=>have q1:=notF q1;have p1:=booT q1;.u 3 [b3]<|
 .br 19 (((Qaa f i).kind) != 2) (fun q2=>have p2:=bneT q2;.u 3 [b2]<|
 .f (.tup [.agg (nodA (dirN f i)),aI (dirE f i)]) [b2] (.tup [.agg [aI 0,aI 0,aI 0,aS ([]),aN],aI 8]) (by
  obtain ⟨e1,e2⟩:=Zmk q1 (by assumption);exact W2s ⟨Qd6 e2,W2p (W1z aI e1.symm),trivial⟩))
 <| fun q2=>have p2:=bneF q2;.u 3 [b3,b2]<|
 .f (.tup [.agg (nodA (dirN f i)),aI (dirE f i)]) [b2] (.tup [.agg [aI ((Qaa f i).ino),aI ((Qaa f i).kind),aI ((Qaa f i).links),aS ((Qaa f i).text),.sl 2 false ((Qaa f i).l.map entA)],aI 0]) (by
  obtain ⟨e1,e2⟩:=Qz7 q1 (by assumption);rw [e1,e2];exact sR))
theorem Qh7 (f:Fsy) (i:Int) (hp:Qan f):Qai prog 75 [.agg (fsyA f),aI i] (.tup [.agg (nodA (dirN f i)),aI (dirE f i)]):=by
 have hl:=hp.1;have hr:=Qaf hp;exact Qae func75 (
 .new fun b1=>.new fun b2=>.r 1<|.u 2 [b1]<|
 .call (Qa2 f i (by omega))<|
 .r 3<|.new fun b3=>.u 2 [b3]<|
 .r 2<|.br 15 (!(Qav f i)) (fun q1=>have q1:=notT q1;have p1:=booF q1;.u 3 [b2]<|
 .f (.tup [.agg (nodA (dirN f i)),aI (dirE f i)]) [b2] (.tup [.agg [aI 0,aI 0,aI 0,aS ([]),aN],aI 6]) (by
  obtain ⟨e1,e2⟩:=Zml q1;exact W2s ⟨Qd6 e2,W2p (W1z aI e1.symm),trivial⟩))
 <| fun q1=>have q1:=notF q1;have p1:=booT q1;.u 3 [b3]<|
 .br 19 (((Qaa f i).kind) != 2) (fun q2=>have p2:=bneT q2;.u 3 [b2]<|
 .f (.tup [.agg (nodA (dirN f i)),aI (dirE f i)]) [b2] (.tup [.agg [aI 0,aI 0,aI 0,aS ([]),aN],aI 8]) (by
  obtain ⟨e1,e2⟩:=Zmk q1 (by assumption);exact W2s ⟨Qd6 e2,W2p (W1z aI e1.symm),trivial⟩))
 <| fun q2=>have p2:=bneF q2;.u 3 [b3,b2]<|
 .f (.tup [.agg (nodA (dirN f i)),aI (dirE f i)]) [b2] (.tup [.agg [aI ((Qaa f i).ino),aI ((Qaa f i).kind),aI ((Qaa f i).links),aS ((Qaa f i).text),.sl 2 false ((Qaa f i).l.map entA)],aI 0]) (by
  obtain ⟨e1,e2⟩:=Qz7 q1 (by assumption);rw [e1,e2];exact sR))
theorem Qkw (f:Fsy) (i:Int) (s:Txt) (hp:Qan f) (hs:s.length≤1000000):Qai prog 173 [.agg (fsyA f),aI i,aS s] (.tup [.agg (nodA (lookN f i s)),aI (Qa4 f i s)]):=by
 have hl:=hp.1;have hr:=Qaf hp;exact Qae func173 (
 .new fun b1=>.new fun b2=>.r 1<|.u 2 [b1]<|
 .call (Qjg f i hp)<|
 .r 3<|.new fun b3=>.u 2 [b3]<|
 .u 3 [b3]<|
 .call (Qgs ((dirN f i).l) s (by have:=(Qdo hp i).2;omega) (Qdo hp i).1)<|
 .r 5<|.u 2 [b1]<|
 .call (Qcp f (getI ((dirN f i).l) s) (by omega) hr)<|
 .r 3<|.new fun b4=>.u 2 [b4]<|
 .r 2<|.call (Qff s (by omega))<|
 .r 2<|.call (Qbw (!(Qav f (getI ((dirN f i).l) s))) 6)<|
 .r 1<|.cs (args0:=[.sl 1 true ([[aI (dirE f i)],[aI (Qak s)],[aI (Qag (!(Qav f (getI ((dirN f i).l) s))) 6)]])]) (Qcu [(dirE f i),(Qak s),(Qag (!(Qav f (getI ((dirN f i).l) s))) 6)] (by simp)) ⟨Qou (dirE f i) (Qak s) (Qag (!(Qav f (getI ((dirN f i).l) s))) 6),trivial⟩<|
 .r 1<|.r 2<|.br 42 ((Qax [(dirE f i),(Qak s),(Qag (!(Qav f (getI ((dirN f i).l) s))) 6)]) != 0) (fun q1=>have p1:=bneT q1;.u 4 [b2]<|
 .f (.tup [.agg (nodA (lookN f i s)),aI (Qa4 f i s)]) [b2] (.tup [.agg [aI 0,aI 0,aI 0,aS ([]),aN],aI (Qax [(dirE f i),(Qak s),(Qag (!(Qav f (getI ((dirN f i).l) s))) 6)])]) (by
  have e:¬ Qa4 f i s=0:=by assumption
  exact W2s ⟨Qd6 (Qlw e),sR,trivial⟩))
 <| fun q1=>have p1:=bneF q1;.u 3 [b4,b2]<|
 .f (.tup [.agg (nodA (lookN f i s)),aI (Qa4 f i s)]) [b2] (.tup [.agg [aI ((Qaa f (getI ((dirN f i).l) s)).ino),aI ((Qaa f (getI ((dirN f i).l) s)).kind),aI ((Qaa f (getI ((dirN f i).l) s)).links),aS ((Qaa f (getI ((dirN f i).l) s)).text),.sl 2 false ((Qaa f (getI ((dirN f i).l) s)).l.map entA)],aI 0]) (by
  have e:Qa4 f i s=0:=by assumption
  rw [Qru e,e];exact sR))
theorem Qeo (f:Fsy) (i:Int) (s:Txt) (hp:Qan f) (hs:s.length≤1000000):Qai prog 66 [.agg (fsyA f),aI i,aS s] (.tup [.agg (nodA (lookN f i s)),aI (Qa4 f i s)]):=by
 have hl:=hp.1;have hr:=Qaf hp;exact Qae func66 (
 .new fun b1=>.new fun b2=>.r 1<|.u 2 [b1]<|
 .call (Qh7 f i hp)<|
 .r 3<|.new fun b3=>.u 2 [b3]<|
 .r 2<|.br 22 ((dirE f i) != 0) (fun q1=>have p1:=bneT q1;.u 4 [b2]<|
 .f (.tup [.agg (nodA (lookN f i s)),aI (Qa4 f i s)]) [b2] (.tup [.agg [aI 0,aI 0,aI 0,aS ([]),aN],aI (dirE f i)]) (by
  have e0:Qa4 f i s=dirE f i:=by
   unfold Qa4;rw [Qjr];simp_all [Qag,Qd3]
  exact W2s ⟨Qd6 (Qlw (by omega)),W2p (W1z aI e0.symm),trivial⟩))
 <| fun q1=>have p1:=bneF q1;.r 1<|.call (Qep s (by omega))<|
 .r 1<|.r 2<|.br 28 ((Qak s) != 0) (fun q2=>have p2:=bneT q2;.u 4 [b2]<|
 .f (.tup [.agg (nodA (lookN f i s)),aI (Qa4 f i s)]) [b2] (.tup [.agg [aI 0,aI 0,aI 0,aS ([]),aN],aI (Qak s)]) (by
  have e0:Qa4 f i s=Qak s:=by
   unfold Qa4;rw [Qjr];simp_all [Qag,Qd3]
  exact W2s ⟨Qd6 (Qlw (by omega)),W2p (W1z aI e0.symm),trivial⟩))
 <| fun q2=>have p2:=bneF q2;.u 3 [b3]<|
 .call (Qen ((dirN f i).l) s (by have:=(Qdo hp i).2;omega))<|
 .r 5<|.r 2<|.br 39 (!(isB ((dirN f i).l) s)) (fun q3=>have q3:=notT q3;have p3:=booF q3;.u 3 [b2]<|
 .f (.tup [.agg (nodA (lookN f i s)),aI (Qa4 f i s)]) [b2] (.tup [.agg [aI 0,aI 0,aI 0,aS ([]),aN],aI 6]) (by
  have e0:Qa4 f i s=6:=by
   have hz:Qd3 f i s=0:=Qr7 (by assumption);have hz2:=Zgy hp;unfold Qa4;rw [Qjr];simp_all [Qag,Qd3]
  exact W2s ⟨Qd6 (Qlw (by omega)),W2p (W1z aI e0.symm),trivial⟩))
 <| fun q3=>have q3:=notF q3;have p3:=booT q3;.u 2 [b1]<|
 .call (Qa2 f (getI ((dirN f i).l) s) (by omega))<|
 .r 3<|.new fun b4=>.u 2 [b4]<|
 .r 2<|.nbb 48 (Qav f (getI ((dirN f i).l) s)) (fun p4=>.u 3 [b2]<|
 .f (.tup [.agg (nodA (lookN f i s)),aI (Qa4 f i s)]) [b2] (.tup [.agg [aI 0,aI 0,aI 0,aS ([]),aN],aI 6]) (by
  have e0:Qa4 f i s=6:=by
   unfold Qa4;rw [Qjr];simp_all [Qag,Qd3]
  exact W2s ⟨Qd6 (Qlw (by omega)),W2p (W1z aI e0.symm),trivial⟩))
 <| fun p4=>.u 3 [b4,b2]<|
 .f (.tup [.agg (nodA (lookN f i s)),aI (Qa4 f i s)]) [b2] (.tup [.agg [aI ((Qaa f (getI ((dirN f i).l) s)).ino),aI ((Qaa f (getI ((dirN f i).l) s)).kind),aI ((Qaa f (getI ((dirN f i).l) s)).links),aS ((Qaa f (getI ((dirN f i).l) s)).text),.sl 2 false ((Qaa f (getI ((dirN f i).l) s)).l.map entA)],aI 0]) (by
  have e0:Qa4 f i s=0:=by
   unfold Qa4;rw [Qjr];simp_all [Qag,Qd3]
  rw [Qru e0,e0];exact sR))
end Go.Proofs.YtahlldgocpabjaaGreat

namespace Go.Proofs.YtahlldgocpabjaaGreat
open Go Go.RowKit Copyhold Go.Proofs.Tryz
open Copyhold.Name in
theorem Qn2 (l:List Ent) (s:Txt) (hl:l.length≤1000000) (hr:Srt (lI l)):Qai prog 156 [.sl 2 false (l.map entA),aS s] (.tup [aI (pos (lI l) s:Int),aB (isB l s)]):=Qco (Qg4 _ _) fun D w vs h=>by
 obtain ⟨u,v,rfl,hu,hv⟩:=Qdj.two h;cases hv;obtain ⟨A,c,rfl,he⟩:=Qje hu;exact (Qqd (lI l) s A c w he (by simp [lI];omega) hr)
def posI (l:List Ent) (s:Txt):Nat:=Name.pos (lI l) s
theorem Qbt (l:List Ent) (s:Txt):posI l s≤l.length:=by
 have:=Name.pos_le (lI l) s;have h:(lI l).length=l.length:=by simp [lI]
 unfold posI;omega
noncomputable def entE (l:List Ent) (s:Txt) (n:Int):Int:=if (Qak s != 0)=true then 10 else if n<1 then 1 else if isB l s=true then 7 else if (l.length:Int)≥256 then 12 else 0
noncomputable def entL (l:List Ent) (s:Txt) (n:Int):List Ent:=if entE l s n=0 then l.take (posI l s)++⟨s,n⟩ :: l.drop (posI l s) else l
theorem Zci (l:List Ent) (s:Txt) (n:Int) (hl:l.length≤256) (hr:Name.Srt (lI l)) (hs:s.length≤1000000) (hn:I64 n):Qai prog 221 [.sl 2 false (l.map entA),aS s,aI n] (.tup [.sl 2 false ((entL l s n).map entA),aI (entE l s n)]):=by
 have hn1:=hn.1;exact Qae func221 (
 .r 2<|.r 2<|.call (Qn2 l s (by omega) hr)<|
 .r 5<|.r 1<|.r 1<|.call (Qff s (by omega))<|
 .r 2<|.br 18 ((Qak s) != 0) (fun q1=>have p1:=bneT q1;.r 1<|.r 2<|.is 32 (show (10 != 0)=true from rfl)<|.r 4<|.f (.tup [.sl 2 false ((entL l s n).map entA),aI (entE l s n)]) [] (.tup [.sl 2 false (l.map entA),aI 10]) (by
  have e:entE l s n=10:=by
   unfold entE;rw [W1y q1]
  have e2:entL l s n=l:=W1x (by omega);rw [e,e2];exact W2s ⟨by first | exact sR | exact W2r _ _ _,sR,trivial⟩))
 <| fun q1=>have p1:=bneF q1;.r 3<|.bd 22 (n<1) (fun p2=>.r 1<|.r 2<|.is 32 (show (1 != 0)=true from rfl)<|.r 4<|.f (.tup [.sl 2 false ((entL l s n).map entA),aI (entE l s n)]) [] (.tup [.sl 2 false (l.map entA),aI 1]) (by
  have e:entE l s n=1:=by
   unfold entE;rw [W1x (by rw [q1];decide)];rw [W1y (by omega)]
  have e2:entL l s n=l:=W1x (by omega);rw [e,e2];exact W2s ⟨by first | exact sR | exact W2r _ _ _,sR,trivial⟩))
 <| fun p2=>.r 2<|.br 25 (isB l s) (fun q3=>have p3:=booT q3;.r 1<|.r 2<|.is 32 (show (7 != 0)=true from rfl)<|.r 4<|.f (.tup [.sl 2 false ((entL l s n).map entA),aI (entE l s n)]) [] (.tup [.sl 2 false (l.map entA),aI 7]) (by
  have e:entE l s n=7:=by
   unfold entE;rw [W1x (by rw [q1];decide)];rw [W1x (by omega)];rw [W1y q3]
  have e2:entL l s n=l:=W1x (by omega);rw [e,e2];exact W2s ⟨by first | exact sR | exact W2r _ _ _,sR,trivial⟩))
 <| fun q3=>have p3:=booF q3;.r 2<|.lm 29 l entA<|.r 2<|.bd 27 ((l.length:Int)≥256) (fun p4=>.r 1<|.r 2<|.is 32 (show (12 != 0)=true from rfl)<|.r 4<|.f (.tup [.sl 2 false ((entL l s n).map entA),aI (entE l s n)]) [] (.tup [.sl 2 false (l.map entA),aI 12]) (by
  have e:entE l s n=12:=by
   unfold entE;rw [W1x (by rw [q1];decide)];rw [W1x (by omega)];rw [W1x (by rw [q3];decide)];rw [W1y (by omega)]
  have e2:entL l s n=l:=W1x (by omega);rw [e,e2];exact W2s ⟨by first | exact sR | exact W2r _ _ _,sR,trivial⟩))
 <| fun p4=>.r 2<|.is 32 (show (0 != 0)=false from rfl)<|.r 2<|.lm 36 l entA<|.run 1 [rng .i64 ((l.length:Int)+1)] ⟨Qah,trivial⟩<|
 .mk0 24 (l.length+1) (show (l.length:Int)+1=((l.length+1:Nat):Int) from by omega) (by have hq:=Qbt l s;simp<;>omega) (by have hq:=Qbt l s;simp<;>omega) fun V1=>
 .r 1<|.r 3<|.slc 2 false (l.map entA) none (some (posI l s:Int)) none 0 (posI l s) false (.inl ⟨rfl,rfl⟩) (.inr rfl) (.inl ⟨rfl,fun h=>by cases h⟩) (by have hq:=Qbt l s;first | omega | (rw [W0a];omega) | (simp<;>omega)) (by have hq:=Qbt l s;first | omega | (rw [W0a];omega) | (simp<;>omega))<|
 .app 24 V1 ([]:List (List AV)) (((l.map entA).take (posI l s)).drop 0) (by have hq:=Qbt l s;simp<;>omega) (by have hq:=Qbt l s;simp<;>omega) fun V2=>
 .r 1<|.r 5<|.app 24 V2 (([]:List (List AV))++(((l.map entA).take (posI l s)).drop 0)) ([[aS s,aI n]]) (by have hq:=Qbt l s;simp<;>omega) (by have hq:=Qbt l s;simp<;>omega) fun V3=>
 .r 1<|.r 3<|.slc 2 false (l.map entA) (some (posI l s:Int)) none none (posI l s) ((l.map entA).length) false (.inr rfl) (.inl ⟨rfl,rfl⟩) (.inl ⟨rfl,fun h=>by cases h⟩) (by have hq:=Qbt l s;first | omega | (rw [W0a];omega) | (simp<;>omega)) (by have hq:=Qbt l s;first | omega | (rw [W0a];omega) | (simp<;>omega))<|
 .app 24 V3 ((([]:List (List AV))++(((l.map entA).take (posI l s)).drop 0))++([[aS s,aI n]])) (((l.map entA).take ((l.map entA).length)).drop (posI l s)) (by have hq:=Qbt l s;simp<;>omega) (by have hq:=Qbt l s;simp<;>omega) fun V4=>
 .r 2<|.frz 38 [6,7] [] [V4=V4,((([]:List (List AV))++(((l.map entA).take (posI l s)).drop 0))++([[aS s,aI n]])).length+(((l.map entA).take ((l.map entA).length)).drop (posI l s)).length=(((([]:List (List AV))++(((l.map entA).take (posI l s)).drop 0))++([[aS s,aI n]]))++(((l.map entA).take ((l.map entA).length)).drop (posI l s))).length] ⟨rfl,(by first | rfl | (simp;done) | (simp;omega)),trivial⟩<|
 .f (.tup [.sl 2 false ((entL l s n).map entA),aI (entE l s n)]) [] (.tup [.sl 2 false (((([]:List (List AV))++(((l.map entA).take (posI l s)).drop 0))++([[aS s,aI n]]))++(((l.map entA).take ((l.map entA).length)).drop (posI l s))),aI 0]) (by
  have e:entE l s n=0:=by
   unfold entE;rw [W1x (by rw [q1];decide)];rw [W1x (by omega)];rw [W1x (by rw [q3];decide)];rw [W1x (by omega)]
  have e2:entL l s n=l.take (posI l s)++⟨s,n⟩ :: l.drop (posI l s):=W1y e;rw [e,e2];exact W2s ⟨W2p (W1z (AV.sl 2 false) (by simp [entA,W17,W2f,Qat])),sR,trivial⟩))
end Go.Proofs.YtahlldgocpabjaaGreat

namespace Go.Proofs.YtahlldgocpabjaaGreat
open Go Go.RowKit Copyhold Go.Proofs.Tryz
def Qbr (n:Nod) (l:List Ent):Nod:=⟨n.ino,n.kind,n.links,n.text,l⟩
noncomputable def enterF (f:Fsy) (d:Int) (s:Txt) (i:Int):Fsy:=putF f (Qbr (Qaa f d) (entL (Qaa f d).l s i))
theorem Qcg {f:Fsy} (okf:OkF f) (hp:Qan f) (i:Int):I64 (Qaa f i).ino∧(Qaa f i).ino<9223372036854775807:=by
 refine ⟨(Qed okf i).1,?_⟩;by_cases h:Qav f i=true
 ·have:=((Qbx.1 hp).2.2.1 _ (Qf3 h)).2;have:=okf.1.2;omega
 ·have h':Qav f i=false:=by simpa using h
  unfold Qaa Qav at *;rw [W11.2 fun x hx=>by simpa using W2d.1 h' x hx];decide
theorem Qfa {f:Fsy} (h:Qan f) (i:Int):Name.Srt (lI (Qaa f i).l)∧(Qaa f i).l.length≤256:=by
 by_cases hb:Qav f i=true
 ·exact Qy8 ((Qbx.1 h).2.2.1 _ (Qf3 hb)).1
 ·have h':Qav f i=false:=by simpa using hb
  unfold Qaa Qav at *;rw [W11.2 fun x hx=>by simpa using W2d.1 h' x hx];exact ⟨List.Pairwise.nil,by decide⟩
theorem Qhl (f:Fsy) (dir:Int) (s:Txt) (ino:Int) (okf:OkF f) (hp:Qan f) (hs:s.length≤1000000) (hi:I64 ino):Qai prog 186 [.agg (fsyA f),aI dir,aS s,aI ino] (.agg (fsyA (enterF f dir s ino))):=by
 have hl:=hp.1;have hr:=Qaf hp;exact Qae func186 (let R:AV:=.agg (fsyA (enterF f dir s ino));
 .new fun b1=>.new fun b2=>.u 2 [b1]<|
 .call (Qcp f dir (by omega) hr)<|
 .r 3<|.new fun b3=>.u 2 [b3]<|
 .u 4 [b3]<|
 .call (Zci ((Qaa f dir).l) s ino (Qfa hp dir).2 (Qfa hp dir).1 (by omega) hi)<|
 .u 5 [b3]<|
 .u 2 [b1,b3]<|
 .cs (args0:=[.agg (fsyA f),.agg [aI ((Qaa f dir).ino),aI ((Qaa f dir).kind),aI ((Qaa f dir).links),aS ((Qaa f dir).text),.sl 2 false ((entL ((Qaa f dir).l) s ino).map entA)]]) (Qfz f (Qbr (Qaa f dir) (entL (Qaa f dir).l s ino)) (Qcg okf hp dir) (by omega) hr) sr2<|
 .u 1 [b2]<|
 .fi R [b2])
theorem Qm6 (f:Fsy) (d:Int) (s:Txt) (i:Int):(enterF f d s i).l.length≤f.l.length+1:=Qnv _ _
theorem Qjf {f:Fsy} (h:Qan f) (d:Int) (s:Txt) (i:Int):Qb1 (enterF f d s i).l:=Qi3 (Qaf h)
noncomputable def addF (f:Fsy) (d:Int) (s:Txt) (n:Nod):Fsy:=putF (enterF f d s n.ino) (Qbr n [])
theorem Zic (f:Fsy) (dir:Int) (s:Txt) (n:Nod) (b:Nat) (okf:OkF f) (hp:Qan f) (hs:s.length≤1000000) (hn:I64 n.ino∧n.ino<9223372036854775807):Qs1 prog 217 [.ptr 7 b 0,.dptr (fsyA f),.dptr [aI dir],.dptr [aS s]] (.box b 84 (nodA n)) (.agg (fsyA (addF f dir s n))):=by
 have hl:=hp.1;have hr:=Qaf hp;exact Qku (q:=7) func217 (let R:AV:=.agg (fsyA (addF f dir s n));
 .new fun b1=>.run 2 [b=b] rt1<|
 .ord [0,1,2,3,4,6,5,7,8]<|.run 6 [b=b,b=b] rt2<|
 .call (Qhl f dir s n.ino okf hp (by omega) hn.1)<|
 .cs (args0:=[.agg [.sl 5 false ((enterF f dir s n.ino).l.map nodA),aI ((enterF f dir s n.ino).next)],.agg [aI n.ino,aI n.kind,aI n.links,aS n.text,aN]]) (Qfz (enterF f dir s n.ino) (Qbr n []) hn (by have:=Qm6 f dir s n.ino;omega) (Qjf hp dir s n.ino)) ⟨sR,W2t ⟨sR,sR,sR,sR,Sub.nil _ _,trivial⟩,trivial⟩<|
 .u 1 [b1]<|
 .fi R [b1])
theorem Qfv (e:Int) (f:Fsy) (dir:Int) (s:Txt) (n:Nod) (b:Nat) (okf:OkF f) (hp:Qan f) (hs:s.length≤1000000) (hn:I64 n.ino∧n.ino<9223372036854775807):Qs1 prog 184 [.agg (fsyA f),aI e,.clo 217 [.ptr 7 b 0,.dptr (fsyA f),.dptr [aI dir],.dptr [aS s]]] (.box b 84 (nodA n)) (.tup [.agg (fsyA (if e=0 then addF f dir s n else f)),aI e]):=by
 exact Qku (q:=7) func184 (
 .new fun b1=>.new fun b2=>.r 1<|.r 2<|.bn 9 e 0 (fun p1=>.u 4 [b1,b2]<|
 .f (.tup [.agg (fsyA (if e=0 then addF f dir s n else f)),aI e]) [b2] (.tup [.agg (fsyA f),aI e]) (by
  rw [W1x (show ¬ e=0 from by omega)];exact sR))
 <| fun p1=>.lent 1<|.r 1<|.lop (lcR prog 7) ((217,[.ptr 7 b 0,.dptr (fsyA f),.dptr [aI dir],.dptr [aS s]],some 13),.box b 84 (nodA n)) (fun (_:Unit) σ=>(σ.put (some 13) (.agg [.sl 5 false ((addF f dir s n).l.map nodA),aI ((addF f dir s n).next)])).setB 7 gone) (Qc4 (args':=[.ptr 7 b 0,.dptr (fsyA f),.dptr [aI dir],.dptr [aS s]]) sr4 (Zic f dir s n b okf hp hs hn)) fun _=>
 .u 2 [b2]<|
 .f (.tup [.agg (fsyA (if e=0 then addF f dir s n else f)),aI e]) [b2] (.tup [.agg [.sl 5 false ((addF f dir s n).l.map nodA),aI ((addF f dir s n).next)],aI 0]) (by
  rw [W1y (show e=0 from by omega),show e=0 from by omega];exact sR))
end Go.Proofs.YtahlldgocpabjaaGreat
