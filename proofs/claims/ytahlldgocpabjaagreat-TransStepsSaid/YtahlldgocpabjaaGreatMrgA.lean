import Derived.WalkKit
import Derived.WalkLawsBesides
import Derived.WalkSpells
import Derived.Lib.Hide
import Derived.Lib.ConvBytes
import Derived.ProofKit
import Derived.OpenShut
import Derived.ShutString
import Derived.JoinedCond
import Derived.Carry
import Derived.SliceStrings
import Derived.SizedLaws
import Derived.Lib.SmallJoins
import Derived.Maps.AppendAt
import Derived.Deep.RegionLaw
import Derived.OwnWalk
import Derived.Deep.AppendLies
import Derived.Laws.CopyRow
import Derived.Laws.IdiomCopy
import Derived.Laws.MakeOwn
import Derived.Deep.Slices
namespace Copyhold
open Go Go.RowKit
theorem ret2 {a a' b b':Value} (h1:a=a') (h2:b=b'):Ending.returned (.tuple #[a,b])=.returned (.tuple #[a',b']):=by rw [h1,h2]
@[go_sem] theorem cat (x y:List UInt8):(⟨x.toArray⟩:ByteArray)++⟨y.toArray⟩=⟨(x++y).toArray⟩:=by
 apply ByteArray.ext;simp
theorem Qyt (l:List UInt8) (a b:Nat):(⟨l.toArray⟩:ByteArray).extract a b=⟨((l.take b).drop a).toArray⟩:=by
 apply ByteArray.ext;simp [List.drop_take]
theorem Qg6 {B:Nat} {a w:World} (h:Below B a w) {g:Nat} (hg:B≤g) (cs:Array Value):Below B a (w.setRow g cs):=
 h.trans ⟨rfl,rfl,rfl,by simp,fun k hk=>by simp only [World.setRow,Array.getElem?_modify];rw [if_neg (by omega)]⟩
theorem Qvl (w:World) (e:TypeId) (s:ByteArray):Below w.heap.size w (Lib.bytesWorld w e s):=
 ⟨rfl,rfl,rfl,by rw [Lib.bytesWorld_size];omega,fun k hk=>Lib.bytesWorld_at_old w e s k hk⟩
theorem Qzm (w:World) (e:TypeId) (l:List UInt8) (j:Nat) (hj:j<l.length):(Lib.bytesWorld w e ⟨l.toArray⟩).cell? ⟨w.heap.size,j,none⟩=some (.int .u8 (l[j].toNat:Int)):=by
 rw [Lib.bytesWorld_cell w e _ j (by simpa [ByteArray.size] using hj)];simp [List.getD,hj]
def strV (l:List UInt8):Value:=.string ⟨l.toArray⟩
def Row (w:World) (v:Value) (xs:List Value):Prop:=
 (∃ a c,v=.slice a 0 c∧xs=[]) ∨
 ∃ b off cap,v=.slice (some ⟨b,off,none⟩) xs.length cap∧0<xs.length∧xs.length≤cap∧b<w.heap.size∧∀ (i:Nat) x,xs[i]?=some x→w.cell? ⟨b,off+i,none⟩=some x
theorem Row.below {w w':World} {v:Value} {xs:List Value} (h:Row w v xs) (hb:Below w.heap.size w w'):Row w' v xs:=by
 rcases h with h | ⟨b,off,cap,rfl,h0,hc,hbk,hcell⟩
 ·exact .inl h
 ·have:=hb.size;exact .inr ⟨b,off,cap,rfl,h0,hc,by omega,fun i x hx=>(hb.cell (p:=⟨b,off+i,none⟩) hbk).trans (hcell i x hx)⟩
theorem Row.same {w w':World} {v:Value} {xs:List Value} (h:Row w v xs) (hh:w'.heap=w.heap):Row w' v xs:=by
 rcases h with h | ⟨b,off,cap,rfl,h0,hc,hbk,hcell⟩
 ·exact .inl h
 ·exact .inr ⟨b,off,cap,rfl,h0,hc,by rw [hh];exact hbk,fun i x hx=>by rw [← hcell i x hx];simp [World.cell?,hh]⟩
theorem Row.alloc {w:World} {v:Value} {xs:List Value} (h:Row w v xs) (o:Obj):Row (w.alloc o) v xs:=
 h.below ((Below.refl _ _).alloc (Nat.le_refl _) o)
theorem Row.of_owns {w:World} {base:Nat} {e:TypeId} {v:Value} {n:Nat} {xs:List Value} (h:w.ownsRow base e 1 v n xs):Row w v xs:=by
 have hl:xs.length=n:=by simpa using h.1
 rcases h.2 with ⟨rfl,rfl⟩ | ⟨g,cap,cur,rfl,hb,hgg,hnc,_,_,htake⟩
 ·exact .inl ⟨none,0,rfl,List.eq_nil_of_length_eq_zero hl⟩
 ·by_cases h0:n=0
  ·subst h0;exact .inl ⟨_,cap,rfl,List.eq_nil_of_length_eq_zero hl⟩
  ·refine .inr ⟨g,0,cap,by rw [hl],by omega,by omega,(Array.getElem?_eq_some_iff.1 hgg).1,fun i x hx=>?_⟩;have h':=h.cells (g:=g) rfl i x hx;have hadd:(⟨g,0,none⟩:Addr).add i=⟨g,0+i,none⟩:=by unfold Addr.add;split<;>simp_all
   rw [hadd] at h';exact h'
theorem Row.shape {w:World} {v:Value} {xs:List Value} (h:Row w v xs):∃ a c,v=.slice a xs.length c:=by
 rcases h with ⟨a,c,rfl,rfl⟩ | ⟨b,off,cap,rfl,_⟩
 ·exact ⟨a,c,rfl⟩
 ·exact ⟨_,cap,rfl⟩
theorem Row.at {w:World} {a:Option Addr} {n c:Nat} {xs:List Value} (h:Row w (.slice a n c) xs) (k:Nat) {x:Value} (hk:xs[k]?=some x) :
  ∃ b off,a=some ⟨b,off,none⟩∧b<w.heap.size∧xs.length≤c∧∀ (i:Nat) y,xs[i]?=some y→w.cell? ⟨b,off+i,none⟩=some y:=by
 rcases h with ⟨a',c',h,rfl⟩ | ⟨b,off,cap,h,h0,hc,hbk,hcell⟩
 ·simp at hk
 ·simp only [Value.slice.injEq] at h;obtain ⟨rfl,rfl,rfl⟩:=h;exact ⟨b,off,rfl,hbk,hc,hcell⟩
end Copyhold

namespace Copyhold
open Go Go.RowKit Go.ChangeShapes Go.WideShapes Go.ChangeAt
theorem Qit {H:Type} {enc:TypeId × Value→H} {P:Program} (hl:laidOutB P=true) {W W':World} (hb:Below W.heap.size W W') :
  ∀ (ts:List TypeId) (vs:List Value) (ds:List (DataW H)) (ps:List MemPlace),(∀ t∈ts,P.readableRec t=true∧t<P.types.size) →
   DataW.TrodAll enc P W 0 (fun _=>true) true ts vs ds ps→(∀ x∈ps,x.block<W.heap.size)→DataW.TrodAll enc P W' 0 (fun b=>decide (b<W.heap.size)) true ts vs ds ps
 | [],vs,ds,ps,_,h,_=>by
  obtain ⟨rfl,rfl,rfl⟩:=trodAll_nil h;rfl
 | t :: ts,vs,ds,ps,ht,h,hlt=>by
  obtain ⟨v,vs',d,ds',p,q,rfl,rfl,rfl,h1,h2⟩:=trodAll_cons h;have hr:=ht t (by simp);exact trodAll_cons_mk (Below.trod hl hr.1 hr.2 h1 hb (fun x hx=>hlt x (by simp [hx])))
   (Qit hl hb ts vs' ds' q (fun u hu=>ht u (by simp [hu])) h2 (fun x hx=>hlt x (by simp [hx])))
theorem list1 {α:Type} {l:List α} (h:l.length=1):∃ x0,l=[x0]:=by
 match l,h with
 | [x0],_=>exact ⟨x0,rfl⟩
theorem Ze7 {α:Type} {l:Array α} (h:l.size=1):∃ x0,l=#[x0]:=by
 obtain ⟨l⟩:=l;obtain ⟨x0,rfl⟩:=list1 h;exact ⟨x0,rfl⟩
theorem list2 {α:Type} {l:List α} (h:l.length=2):∃ x0 x1,l=[x0,x1]:=by
 match l,h with
 | [x0,x1],_=>exact ⟨x0,x1,rfl⟩
theorem Ze6 {α:Type} {l:Array α} (h:l.size=2):∃ x0 x1,l=#[x0,x1]:=by
 obtain ⟨l⟩:=l;obtain ⟨x0,x1,rfl⟩:=list2 h;exact ⟨x0,x1,rfl⟩
theorem law_post {H:Type} {enc:TypeId × Value→H} {P:Program} {f:Func} {s:ChangeSpec} {W W':World} {args:Array Value} {ds gs:List (DataW H)} {before:List MemPlace} {tb:TypeId}
  (hl:laidOutB P=true) (hp:(f.params.toList.all fun t=>P.readableRec t&&decide (t<P.types.size))=true) (hr:f.resultTypes=#[tb]) (htb:P.underlying tb=some .bool) (hv:s.vars=[])
  (hfn:(s.fn H (ds++gs)).results=[.lit (.bool true)]) (hfa:(s.fn H (ds++gs)).args=ds) (hfv:(s.fn H (ds++gs)).vars=[])
  (hW:DataW.Whole enc P f.params.toList s.vars false W args.toList ds gs before) (hb:Below W.heap.size W W') :
  s.post enc P f false true false false W args (.bool true) W':=by
 have hlt:=hW.lt;have hW':=hW;obtain ⟨p,q,hA,hV,rfl,hz,hn⟩:=hW;refine ⟨ds,gs,p++q,[],p,[],hW',?_,?_,?_,hb.frame _,fun h=>by cases h⟩
 ·rw [hfn,hr];exact trodAll_cons_mk (shut_bool htb true) trodAll_mk0
 ·rw [hfa];refine Qit hl hb _ _ _ _ (fun t ht=>?_) hA (fun x hx=>hlt x (by simp [hx]));have:=(List.all_eq_true.1 hp) t ht;simpa using this
 ·rw [hfv,hv];rfl
theorem Qx3 {H:Type} {P:Program} {ts:List TypeId} {ds:List (DataW H)} (h:(DataW.weightsEach P ts ds).all (·≤reachBytes)=true) {n:Nat} (hn:n∈DataW.weightsEach P ts ds):n≤140737488351232:=
 of_decide_eq_true (List.all_eq_true.1 h n hn)
end Copyhold

namespace Copyhold
open Go Go.RowKit
theorem Qbj (b off j:Nat):(⟨b,off,none⟩:Addr).add j=⟨b,off+j,none⟩:=by unfold Addr.add;split<;>simp_all
theorem Qh0 {B:Nat} {a w:World} (h:Below B a w) (n:Nat):Below B a (w.drewN n):=⟨h.os,h.tape,h.output,h.size,h.block⟩
def Sl (w:World) (k:Nat) (v:Value) (n:Nat) (xs:List Value):Prop:=
 ∃ A c,v=.slice A n c∧n≤c∧xs.length=n*k∧(0<n→∃ b off,A=some ⟨b,off,none⟩∧b<w.heap.size∧∀ j x,xs[j]?=some x→w.cell? ⟨b,off+j,none⟩=some x)
theorem Sl.below {w w':World} {k:Nat} {v:Value} {n:Nat} {xs:List Value} (h:Sl w k v n xs) (hb:Below w.heap.size w w'):Sl w' k v n xs:=by
 obtain ⟨A,c,rfl,hc,hl,hh⟩:=h;refine ⟨A,c,rfl,hc,hl,fun h0=>?_⟩;obtain ⟨b,off,rfl,hbk,hcell⟩:=hh h0;have:=hb.size;exact ⟨b,off,rfl,by omega,fun j x hx=>(hb.cell (p:=⟨b,off+j,none⟩) hbk).trans (hcell j x hx)⟩
theorem Sl.nil (w:World) (k:Nat):Sl w k (.slice none 0 0) 0 []:=⟨none,0,rfl,Nat.le_refl _,by simp,fun h=>absurd h (by omega)⟩
theorem Sl.same {w w':World} {k:Nat} {v:Value} {n:Nat} {xs:List Value} (h:Sl w k v n xs) (hh:w'.heap=w.heap):Sl w' k v n xs:=by
 obtain ⟨A,c,rfl,hc,hl,hx⟩:=h;refine ⟨A,c,rfl,hc,hl,fun h0=>?_⟩;obtain ⟨b,off,rfl,hbk,hcell⟩:=hx h0;exact ⟨b,off,rfl,by rw [hh];exact hbk,fun j x hj=>by rw [← hcell j x hj];simp [World.cell?,hh]⟩
theorem Sl.row {w:World} {v:Value} {n:Nat} {xs:List Value} (h:Sl w 1 v n xs):Row w v xs:=by
 obtain ⟨A,c,rfl,hc,hl,hh⟩:=h;rw [Nat.mul_one] at hl;subst hl;by_cases h0:0<xs.length
 ·obtain ⟨b,off,rfl,hbk,hcell⟩:=hh h0;exact .inr ⟨b,off,c,rfl,h0,hc,hbk,hcell⟩
 ·have:xs=[]:=List.eq_nil_of_length_eq_zero (by omega);subst this;exact .inl ⟨A,c,rfl,rfl⟩
theorem Sl.of_owns {w:World} {base:Nat} {e:TypeId} {k:Nat} {v:Value} {n:Nat} {xs:List Value} (h:w.ownsRow base e k v n xs):Sl w k v n xs:=by
 rcases h.2 with ⟨rfl,rfl⟩ | ⟨g,cap,cur,rfl,hb,hgg,hnc,_,_,htake⟩
 ·exact ⟨none,0,rfl,Nat.le_refl _,h.1,fun h=>absurd h (by omega)⟩
 ·refine ⟨_,cap,rfl,hnc,h.1,fun _=>⟨g,0,rfl,(Array.getElem?_eq_some_iff.1 hgg).1,fun i x hx=>?_⟩⟩;have h':=h.cells (g:=g) rfl i x hx;rw [Qbj] at h';exact h'
theorem Sl.at {w:World} {k:Nat} {A:Option Addr} {n c:Nat} {xs:List Value} (h:Sl w k (.slice A n c) n xs) (hn:0<n) :
  ∃ b off,A=some ⟨b,off,none⟩∧b<w.heap.size∧n≤c∧xs.length=n*k∧∀ j x,xs[j]?=some x→w.cell? ⟨b,off+j,none⟩=some x:=by
 obtain ⟨A',c',he,hc,hl,hh⟩:=h;simp only [Value.slice.injEq] at he;obtain ⟨rfl,_,rfl⟩:=he;obtain ⟨b,off,rfl,hbk,hcell⟩:=hh hn;exact ⟨b,off,rfl,hbk,hc,hl,hcell⟩
theorem Sl.shape {w:World} {k:Nat} {v:Value} {n:Nat} {xs:List Value} (h:Sl w k v n xs):∃ A c,v=.slice A n c∧n≤c∧xs.length=n*k:=by
 obtain ⟨A,c,rfl,hc,hl,_⟩:=h;exact ⟨A,c,rfl,hc,hl⟩
def Elem (P:Program) (t e:TypeId) (z:Value) (size bytes:Nat):Prop:=
 P.underlying t=some (.slice e)∧(P.info? e).map (fun i=>(i.zero,i.size,i.bytes))=some (some z,size,bytes)∧z.cells.size=size∧0<size
theorem Qf5 {P:Program} {e:TypeId} {z:Value} {size bytes:Nat} (h:(P.info? e).map (fun i=>(i.zero,i.size,i.bytes))=some (some z,size,bytes)) :
  ∃ i,P.info? e=some i∧i.zero=some z∧i.size=size∧i.bytes=bytes:=by
 cases hi:P.info? e with
 | none=>rw [hi] at h;cases h
 | some i=>
  rw [hi] at h;simp at h;exact ⟨i,rfl,h.1,h.2.1,h.2.2⟩
theorem Qth {P:Program} {t e:TypeId} {z:Value} {size bytes:Nat} (E:Elem P t e z size bytes) (w:World) (base:Nat) (ty:TypeId) (v:Value) (n:Nat) (xs:List Value) (hown:w.ownsRow base e size v n xs)
  (sv:Value) (m:Nat) (news:List Value) (hs:Sl w size sv m news) (h1:∀ u∈news,u.oneCell'=true)
  (h63:n+m≤maxLen) (hbytes:(n+m)*bytes≤140737488355328) (hbase:base≤w.heap.size) :
  ∃ v' w',(Builtin.append_ #[t,t] ty #[v,sv]).run P w=.ok v' w'∧w'.ownsRow base e size v' (n+m) (xs++news)∧w.grownBy w' v.ownBlock∧(v'.ownBlock=v.ownBlock∨v'.ownBlock=some w.heap.size):=by
 obtain ⟨ht,hinf,hzs,hsz⟩:=E;obtain ⟨i,hi,hz,hsize,hby⟩:=Qf5 hinf;obtain ⟨A,c,rfl,hc,hl,hh⟩:=hs;by_cases h0:0<m
 ·obtain ⟨b,off,rfl,hbk,hcell⟩:=hh h0;obtain ⟨v',w',hr,h2,h3,_,h5⟩:=run_append_own_at (P:=P) w base t ty e i z size bytes ht hi hz hsize hby hzs hsz v n xs hown ⟨b,off,none⟩ m c news hl (fun j u hu=>by rw [Qbj];exact hcell j u hu) h1 h63 hbytes hbase;exact ⟨v',w',hr,h2,h3,h5⟩
 ·obtain rfl:m=0:=by omega
  obtain rfl:news=[]:=List.eq_nil_of_length_eq_zero (by simpa using hl);cases A with
  | some a=>
   obtain ⟨v',w',hr,h2,h3,_,h5⟩:=run_append_own_at (P:=P) w base t ty e i z size bytes ht hi hz hsize hby hzs hsz v n xs hown a 0 c [] (by simp) (fun j u hu=>by simp at hu) h1 h63 hbytes hbase;exact ⟨v',w',hr,h2,h3,h5⟩
  | none=>
   refine ⟨v,w,?_,by simpa using hown,World.grownBy.refl w _,.inl rfl⟩;rcases hown.2 with ⟨rfl,rfl⟩ | ⟨g,cap,cur,rfl,_,_,hnc,_⟩
   ·simp [Builtin.append_,run_underlying ht,Go.sizeOf,typeInfo,hi,Builtin.lenOf,Builtin.firstCells]
   ·simp [Builtin.append_,run_underlying ht,Go.sizeOf,typeInfo,hi,Builtin.lenOf,Builtin.firstCells,hnc,storeCells]
theorem Qe8 {w:World} {base:Nat} {e:TypeId} {k:Nat} {v:Value} {n:Nat} {xs:List Value} (h:w.ownsRow base e k v n xs):∀ g,v.ownBlock=some g→base≤g∧g<w.heap.size:=by
 intro g hg;rcases h.2 with ⟨rfl,rfl⟩ | ⟨g',cap,cur,rfl,hb,hgg,_⟩
 ·simp [Value.ownBlock] at hg
 ·have:g'=g:=by simpa [Value.ownBlock] using hg
  subst this;exact ⟨hb,(Array.getElem?_eq_some_iff.1 hgg).1⟩
theorem Qge (w:World) (p:Addr) (u:Value) (k:Nat) (h:k ≠ p.block):(w.setCell p u).heap[k]?=w.heap[k]?:=Below.heap_setCell w p u k h
theorem Qds {P:Program} {w:World} {ops:Array Oper} {rest:List Oper} {o:Oper} {a:Act} {Q:Exit→Act→World→Prop} (hgd:o.guard=none) (s x:Operand) (t:TypeId)
  (ho:o.op=.call { callee:=.builtin .append,args:=#[s,x],argTypes:=#[t,t] }) (v v2 v':Value) (w':World) (hs:a.eval s=v) (hx:a.eval x=v2)
  (hrun:(Builtin.append_ #[t,t] o.type #[v,v2]).run P w=.ok v' w') (h:wpList P ops Q rest (a.put o.dst v') w'):wpList P ops Q (o :: rest) a w:=
 wpList_plain hgd fun K hK=>by
  unfold Oper.wp;simp [execOp,ho,resolve,invoke,builtin,hs,hx,hrun,Result.andThen];exact hK _ _ h
theorem Qvk {w:World} {b o:Nat} {v:Value} (h:w.cell? ⟨b,o,none⟩=some v):b<w.heap.size:=by
 rcases Nat.lt_or_ge b w.heap.size with hl | hl
 ·exact hl
 ·simp only [World.cell?,Array.getElem?_eq_none hl] at h;cases h
theorem Qjy {W w1:World} (hb:Below W.heap.size W w1) {b o:Nat} {v:Value} (h:W.cell? ⟨b,o,none⟩=some v):w1.cell? ⟨b,o,none⟩=some v:=
 (hb.cell (p:=⟨b,o,none⟩) (Qvk h)).trans h
theorem Zis (W:World) (cs:Array Value) (t:TypeId) (i:Nat):(W.alloc (.cells cs t)).cell? ⟨W.heap.size,i,none⟩=cs[i]?:=by
 simp only [World.cell?,heap_alloc_new];rfl
theorem put2 {w:World} {g:Nat} (u v:Value) {u0 v0:Value} (q0:w.cell? ⟨g,0,none⟩=some u0) (q1:w.cell? ⟨g,1,none⟩=some v0) :
  ((w.setCell ⟨g,0,none⟩ u).setCell ⟨g,1,none⟩ v).cell? ⟨g,0,none⟩=some u∧((w.setCell ⟨g,0,none⟩ u).setCell ⟨g,1,none⟩ v).cell? ⟨g,1,none⟩=some v ∧
  (∀ k,k ≠ g→((w.setCell ⟨g,0,none⟩ u).setCell ⟨g,1,none⟩ v).heap[k]?=w.heap[k]?)∧((w.setCell ⟨g,0,none⟩ u).setCell ⟨g,1,none⟩ v).heap.size=w.heap.size ∧
  ∀ o,((w.setCell ⟨g,0,none⟩ u).setCell ⟨g,1,none⟩ v).frozen? ⟨g,o,none⟩=w.frozen? ⟨g,o,none⟩:=by
 refine ⟨?_,?_,fun k hk=>?_,by simp,fun o=>by simp [go_sem]⟩
 ·rw [World.cell?_setCell_other _ _ _ _ (by intro h;simp at h),World.cell?_setCell_same _ _ _ q0]
 ·rw [World.cell?_setCell_same _ _ _ (show _=some v0 by rw [World.cell?_setCell_other _ _ _ _ (by intro h;simp at h)];exact q1)]
 ·rw [Below.heap_setCell _ _ _ _ hk,Below.heap_setCell _ _ _ _ hk]
def At (D:Nat→Prop):Value→Prop
 | .slice (some a) n _=>0<n→D a.block
 | _=>True
theorem At.mono {D D':Nat→Prop} {v:Value} (h:At D v) (hd:∀ b,D b→D' b):At D' v:=by
 unfold At at h ⊢
 split
 ·exact fun h0=>hd _ (h h0)
 ·trivial
theorem At.of_owns {w:World} {base:Nat} {e:TypeId} {k:Nat} {v:Value} {n:Nat} {xs:List Value} (h:w.ownsRow base e k v n xs):At (base≤·) v:=by
 rcases h.2 with ⟨rfl,rfl⟩ | ⟨g,cap,cur,rfl,hb,_⟩
 ·trivial
 ·exact fun _=>hb
theorem Row.lies {w:World} {v:Value} {xs:List Value} (h:Row w v xs):At (·<w.heap.size) v:=by
 rcases h with ⟨a,c,rfl,rfl⟩ | ⟨b,off,cap,rfl,h0,hc,hbk,hcell⟩
 ·cases a
  ·trivial
  ·exact fun h=>absurd h (by omega)
 ·exact fun _=>hbk
theorem Row.frame {D:Nat→Prop} {w w':World} {v:Value} {xs:List Value} (h:Row w v xs) (hat:At D v) (hk:∀ b,D b→b<w.heap.size→w'.heap[b]?=w.heap[b]?) (hs:w.heap.size≤w'.heap.size):Row w' v xs:=by
 rcases h with h | ⟨b,off,cap,rfl,h0,hc,hbk,hcell⟩
 ·exact .inl h
 ·exact .inr ⟨b,off,cap,rfl,h0,hc,by omega,fun i x hx=>by rw [← hcell i x hx];exact World.cell?_of_block (hk b (hat h0) hbk)⟩
theorem Sl.lies {w:World} {k:Nat} {v:Value} {n:Nat} {xs:List Value} (h:Sl w k v n xs):At (·<w.heap.size) v:=by
 obtain ⟨A,c,rfl,hc,hl,hh⟩:=h;cases A
 ·trivial
 ·intro h0;obtain ⟨b,off,he,hbk,_⟩:=hh h0;injection he with he
  subst he;exact hbk
theorem Sl.frame {D:Nat→Prop} {w w':World} {k:Nat} {v:Value} {n:Nat} {xs:List Value} (h:Sl w k v n xs) (hat:At D v) (hk:∀ b,D b→b<w.heap.size→w'.heap[b]?=w.heap[b]?) (hs:w.heap.size≤w'.heap.size):Sl w' k v n xs:=by
 obtain ⟨A,c,rfl,hc,hl,hh⟩:=h;refine ⟨A,c,rfl,hc,hl,fun h0=>?_⟩;obtain ⟨b,off,rfl,hbk,hcell⟩:=hh h0;exact ⟨b,off,rfl,by omega,fun j x hx=>by rw [← hcell j x hx];exact World.cell?_of_block (hk b (hat h0) hbk)⟩
end Copyhold

namespace Copyhold
open Go Go.RowKit Go.ChangeShapes Go.WideShapes Go.ChangeAt Go.Deep
def SlOf {α:Type} (R:α→List Value→Prop) (w:World) (k:Nat) (v:Value) (xs:List α):Prop:=
 ∃ css:List (List Value),Sl w k v xs.length css.flatten∧css.length=xs.length∧∀ (i:Nat) cs a,css[i]?=some cs→xs[i]?=some a→cs.length=k∧R a cs
theorem SlOf.mono {α:Type} {R R':α→List Value→Prop} {w:World} {k:Nat} {v:Value} {xs:List α} (h:SlOf R w k v xs) (hr:∀ a cs,R a cs→R' a cs):SlOf R' w k v xs:=by
 obtain ⟨css,h1,h2,h3⟩:=h;exact ⟨css,h1,h2,fun i cs a hc ha=>⟨(h3 i cs a hc ha).1,hr _ _ (h3 i cs a hc ha).2⟩⟩
theorem SlOf.shape {α:Type} {R:α→List Value→Prop} {w:World} {k:Nat} {v:Value} {xs:List α} (h:SlOf R w k v xs):∃ A c,v=.slice A xs.length c:=by
 obtain ⟨css,h1,_⟩:=h;obtain ⟨A,c,rfl,_⟩:=h1.shape;exact ⟨A,c,rfl⟩
theorem SlOf.below {α:Type} {R:α→List Value→Prop} {w w':World} {k:Nat} {v:Value} {xs:List α} (h:SlOf R w k v xs) (hb:Below w.heap.size w w'):SlOf R w' k v xs:=by
 obtain ⟨css,h1,h2,h3⟩:=h;exact ⟨css,h1.below hb,h2,h3⟩
theorem Qik {k:Nat}:∀ (css:List (List Value)),(∀ cs∈css,cs.length=k)→∀ (i j:Nat),j<k→css.flatten[i*k+j]?=css[i]?.bind (·[j]?):=by
 intro css
 induction css with
 | nil=>intro _ i j _;simp
 | cons c r ih=>
  intro h i j hj;have hc:=h c List.mem_cons_self;have hr:=ih (fun cs hcs=>h cs (List.mem_cons_of_mem _ hcs));rw [List.flatten_cons];cases i with
  | zero=>
   rw [Nat.zero_mul,Nat.zero_add,List.getElem?_append_left (by omega)];simp
  | succ i=>
   rw [List.getElem?_append_right (by rw [hc,Nat.succ_mul];omega),hc,show (i+1)*k+j-k=i*k+j from by rw [Nat.succ_mul];omega,hr i j hj];simp
theorem SlOf.at {α:Type} {R:α→List Value→Prop} {w:World} {k:Nat} {A:Option Addr} {c:Nat} {xs:List α} (h:SlOf R w k (.slice A xs.length c) xs) (i:Nat) {a:α} (hi:xs[i]?=some a) :
  ∃ b off cs,A=some ⟨b,off,none⟩∧b<w.heap.size∧cs.length=k∧R a cs∧∀ j y,cs[j]?=some y→w.cell? ⟨b,off+(i*k+j),none⟩=some y:=by
 obtain ⟨css,h1,h2,h3⟩:=h;have hil:=(List.getElem?_eq_some_iff.1 hi).1;obtain ⟨b,off,rfl,hbk,_,_,hcl⟩:=h1.at (by omega);have hcs:css[i]?=some (css[i]'(by omega)):=List.getElem?_eq_getElem (by omega);obtain ⟨hl,hr⟩:=h3 i _ a hcs hi;have hall:∀ cs∈css,cs.length=k:=fun cs hm=>by
  obtain ⟨j,hj,rfl⟩:=List.mem_iff_getElem.1 hm;exact (h3 j _ _ (List.getElem?_eq_getElem hj) (List.getElem?_eq_getElem (by omega))).1
 refine ⟨b,off,_,rfl,hbk,hl,hr,fun j y hy=>hcl _ _ ?_⟩;have hj:=(List.getElem?_eq_some_iff.1 hy).1;rw [Qik css hall i j (by omega),hcs];exact hy
def rowsD {H:Type} (d:DataW H) (n:Nat):Prop:=d=.nil∧n=0∨∃ elems spare,d=.slice elems spare∧elems.length=n
theorem Qoi {H:Type} {P:Program} {t e:TypeId} {d:DataW H} {n:Nat} (hu:P.underlying t=some (.slice e)) (he:rowsD d n) (hw:∀ m∈DataW.weights P t d,m≤140737488351232):n*P.bytesOf e≤140737488351232:=by
 rcases he with ⟨rfl,rfl⟩ | ⟨elems,spare,rfl,hl⟩
 ·simp
 ·have:=hw ((elems.length+spare.length)*P.bytesOf e) (by simp only [DataW.weights,hu,List.mem_cons,true_or]);rw [Nat.add_mul,hl] at this;omega
theorem Qkx {H:Type} {P:Program} {e:TypeId}:∀ (ds:List (DataW H)) (d:DataW H),d∈ds→∀ n∈DataW.weights P e d,n∈DataW.weightsAll P e ds
 | x :: r,d,h,n,hn=>by
  simp only [DataW.weightsAll,List.mem_append];rcases List.mem_cons.1 h with rfl | h
  ·exact .inl hn
  ·exact .inr (Qkx r d h n hn)
theorem Qi8 {α:Type} {R:α→List Value→Prop} {H:Type} {enc:TypeId × Value→H} {P:Program} {W:World} {t e:TypeId} {k fuel:Nat} {cs:List Value} {x:DataW H × List MemPlace} (ht:P.underlying t=some (.slice e)) (hc:P.cellsOf e=k) (hk:0<k) (a0:α)
  (hel:∀ (n:Nat) (cs':List Value) (y:DataW H × List MemPlace),DataW.trod enc P W 0 (fun _=>true) true n e cs'=some y→(∀ p∈y.2,p.block<W.heap.size)→cs'.length=k→(∀ n∈DataW.weights P e y.1,n≤140737488351232)→∃ a,R a cs')
  (h:DataW.trod enc P W 0 (fun _=>true) true fuel t cs=some x) (hlt:∀ p∈x.2,p.block<W.heap.size) (hw:∀ n∈DataW.weights P t x.1,n≤140737488351232) :
  ∃ (v:Value) (xs:List α),cs=[v]∧SlOf R W k v xs∧rowsD x.1 xs.length:=by
 rcases open_slice ht h with ⟨rfl,rfl⟩ | ⟨a,len,cap,m,n,D,Pl,rfl,_,hl,hm,hmm,rfl,hi⟩
 ·exact ⟨_,[],rfl,⟨[],Sl.nil _ _,rfl,fun i cs a hc=>by simp at hc⟩,.inl ⟨rfl,rfl⟩⟩
 ·simp only [if_true] at hmm;subst hmm;have hel':∀ i:Nat,∃ q:α × List Value,i<len→q.2.length=k∧R q.1 q.2∧∀ j,j<k→W.cell? (a.add (i*k+j))=q.2[j]?:=by
   intro i;by_cases hil:i<len
   ·obtain ⟨cs',hcs,htr⟩:=hi i (by omega);rw [hc] at hcs;obtain ⟨_,hcl,hat⟩:=World.cells?_some hcs;obtain ⟨y,hy⟩:=hel n cs' _ htr (fun p hp=>hlt p (by
     simp only [List.mem_append,List.mem_flatMap];exact .inr ⟨i,List.mem_range.2 (by omega),hp⟩)) hcl (fun q hq=>hw q (by
     simp only [DataW.weights,ht,List.mem_cons,List.mem_append];exact .inr (.inl (Qkx _ (D i) (List.mem_map.2 ⟨i,List.mem_range.2 hil,rfl⟩) q hq))))
    refine ⟨(y,cs'),fun _=>⟨hcl,hy,fun j hj=>?_⟩⟩;have:=hat j hj;rw [Go.Deep.add_add] at this;exact this
   ·exact ⟨(a0,[]),fun h=>absurd h hil⟩
  obtain ⟨f,hf⟩:=Classical.skolem.1 hel';have hlen:((List.range len).map fun i=>(f i).1).length=len:=by simp
  refine ⟨_,(List.range len).map fun i=>(f i).1,rfl,⟨(List.range len).map fun i=>(f i).2,?_,by simp,fun i cs y hcs hy=>?_⟩,.inr ⟨_,_,rfl,by simp⟩⟩
  ·have hall:∀ cs∈(List.range len).map fun i=>(f i).2,cs.length=k:=fun cs hm=>by
    obtain ⟨i,hi',rfl⟩:=List.mem_map.1 hm;exact (hf i (List.mem_range.1 hi')).1
   have hfl:((List.range len).map fun i=>(f i).2).flatten.length=len*k:=by
    rw [List.length_flatten];have:(((List.range len).map fun i=>(f i).2).map List.length)=List.replicate len k:=by
     apply List.ext_getElem (by simp);intro i h1 h2;simp at h1 ⊢;exact (hf i h1).1
    rw [this];simp
   refine ⟨some a,m,by rw [hlen],by rw [hlen];exact hl,by rw [hlen];exact hfl,fun h0=>?_⟩;rw [hlen] at h0;obtain ⟨b,off,spot⟩:=a;have h00:=(hf 0 h0).2.2 0 hk;have hl0:=(hf 0 h0).1;rw [List.getElem?_eq_getElem (by omega)] at h00;have hspot:spot=none:=by simpa [Addr.add] using World.cell?_spot h00
   subst hspot;refine ⟨b,off,rfl,?_,fun j y hy=>?_⟩
   ·exact Qvk (b:=b) (o:=off+(0*k+0)) (by rw [← Qbj];exact h00)
   ·have hj:=(List.getElem?_eq_some_iff.1 hy).1;rw [hfl] at hj;have hdiv:j / k<len:=Nat.div_lt_of_lt_mul (by rw [Nat.mul_comm];exact hj);have hmod:=Nat.mod_lt j hk;have hjj:j=j / k*k+j % k:=by rw [Nat.mul_comm];exact (Nat.div_add_mod j k).symm
    rw [hjj,Qik _ hall _ _ hmod,List.getElem?_map,List.getElem?_range hdiv] at hy;simp only [Option.map_some,Option.bind_some] at hy;rw [hjj,← Qbj,(hf _ hdiv).2.2 _ hmod];exact hy
  ·have hil:i<len:=by have:=(List.getElem?_eq_some_iff.1 hy).1;rwa [hlen] at this
   rw [List.getElem?_map,List.getElem?_range hil] at hcs hy;simp only [Option.map_some,Option.some.injEq] at hcs hy;subst hcs hy;exact ⟨(hf i hil).1,(hf i hil).2.1⟩
end Copyhold

set_option linter.unusedVariables false
namespace Copyhold.Name
abbrev Ent:=List UInt8 × Int
def okN (s:List UInt8):Bool:=!(s==[])&&!(s==[46])&&!(s==[46,46])&&decide (s.length≤32)&&!s.contains 47&&!s.contains 0
def okE (x:Ent):Bool:=okN x.1&&decide (1≤x.2)
def upAt (l:List Ent) (i:Nat) (x:Ent):Bool:=i==0||(match l[i-1]? with | some y=>decide (y.1<x.1) | none=>true)
def okAt (l:List Ent) (i:Nat):Bool:=match l[i]? with | none=>true | some x=>okE x&&upAt l i x
def rightE (l:List Ent):Bool:=decide (l.length≤256)&&(List.range l.length).all (okAt l)
def Srt (l:List Ent):Prop:=l.Pairwise (fun a b=>a.1<b.1)
theorem ltT {a b c:List UInt8} (h:a<b) (h2:b<c):a<c:=List.lt_trans h h2
theorem ltI {a:List UInt8} (h:a<a):False:=List.lt_irrefl a h
theorem ltA {a b:List UInt8} (h:¬ a<b) (h2:¬ b<a):a=b:=List.le_antisymm (List.not_lt.mp h2) (List.not_lt.mp h)
theorem rightE_iff (l:List Ent):rightE l=true↔l.length≤256∧(∀ x∈l,okE x=true)∧Srt l:=by
 constructor
 ·intro h;simp only [rightE,Bool.and_eq_true,decide_eq_true_eq,List.all_eq_true,List.mem_range] at h;obtain ⟨h1,h2⟩:=h;have ha:∀ i (hi:i<l.length),okE l[i]=true∧(∀ j (hj:j<l.length),j+1=i→l[j].1<l[i].1):=by
   intro i hi;have:=h2 i hi;simp only [okAt,List.getElem?_eq_getElem hi,Bool.and_eq_true,upAt,Bool.or_eq_true,beq_iff_eq] at this;refine ⟨this.1,fun j hj e=>?_⟩;rcases this.2 with h0 | h0
   ·omega
   ·rw [show i-1=j from by omega,List.getElem?_eq_getElem hj] at h0;simpa using h0
  refine ⟨h1,fun x hx=>?_,?_⟩
  ·obtain ⟨i,hi,rfl⟩:=List.mem_iff_getElem.1 hx;exact (ha i hi).1
  ·refine List.pairwise_iff_getElem.2 fun i j hi hj hij=>?_;obtain ⟨d,rfl⟩:∃ d,j=i+1+d:=⟨j-i-1,by omega⟩
   clear hij
   induction d with
   | zero=>exact (ha (i+1) hj).2 i hi rfl
   | succ d ih=>exact ltT (ih (by omega)) ((ha (i+1+(d+1)) hj).2 (i+1+d) (by omega) rfl)
 ·rintro ⟨h1,h2,h3⟩;simp only [rightE,Bool.and_eq_true,decide_eq_true_eq,List.all_eq_true,List.mem_range];refine ⟨h1,fun i hi=>?_⟩;simp only [okAt,List.getElem?_eq_getElem hi,Bool.and_eq_true,upAt,Bool.or_eq_true,beq_iff_eq];refine ⟨h2 _ (List.getElem_mem _),?_⟩;by_cases h0:i=0
  ·exact .inl h0
  ·right;rw [List.getElem?_eq_getElem (by omega)];simp only [decide_eq_true_eq];exact List.pairwise_iff_getElem.1 h3 (i-1) i (by omega) hi (by omega)
def pos (l:List Ent) (s:List UInt8):Nat:=l.countP (fun x=>decide (x.1<s))
def isAt (l:List Ent) (s:List UInt8):Bool:=l.any (fun x=>x.1==s)
def getE (l:List Ent) (s:List UInt8):Option Int:=(l.find? (fun x=>x.1==s)).map (·.2)
def insE:List Ent→Ent→List Ent
 | [],x=>[x]
 | a :: l,x=>if a.1<x.1 then a :: insE l x else x :: a :: l
def delE (l:List Ent) (s:List UInt8):List Ent:=l.filter (fun x=>!(x.1==s))
theorem pos_le (l:List Ent) (s:List UInt8):pos l s≤l.length:=List.countP_le_length
theorem Srt.tail {a:Ent} {l:List Ent} (h:Srt (a :: l)):Srt l:=(List.pairwise_cons.1 h).2
theorem Srt.head {a:Ent} {l:List Ent} (h:Srt (a :: l)):∀ x∈l,a.1<x.1:=(List.pairwise_cons.1 h).1
theorem pos_lt {a:Ent} {l:List Ent} {s:List UInt8} (h:a.1<s):pos (a :: l) s=pos l s+1:=by
 simp [pos,h]
theorem pos_ge {a:Ent} {l:List Ent} {s:List UInt8} (hs:Srt (a :: l)) (h:¬ a.1<s):pos (a :: l) s=0:=by
 unfold pos;rw [List.countP_eq_zero];intro x hx;rcases List.mem_cons.1 hx with rfl | hx
 ·simpa using h
 ·simp only [decide_eq_true_eq];exact fun hxs=>h (ltT (hs.head x hx) hxs)
theorem take_ins {l:List Ent} (h:Srt l) (s:List UInt8) (n:Int):l.take (pos l s)++(s,n) :: l.drop (pos l s)=insE l (s,n):=by
 induction l with
 | nil=>rfl
 | cons a l ih=>
  by_cases ha:a.1<s
  ·rw [pos_lt ha];simp only [List.take_succ_cons,List.drop_succ_cons,List.cons_append,insE,ha,if_true];rw [ih h.tail]
  ·rw [pos_ge h ha];simp [insE,ha]
theorem Qdm (a:Ent) (l:List Ent) (s:List UInt8):isAt (a :: l) s=(a.1==s||isAt l s):=rfl
theorem Qjl {l:List Ent} {s:List UInt8}:isAt l s=true↔∃ x∈l,x.1=s:=by simp [isAt]
theorem Qml {a:Ent} {l:List Ent} {s:List UInt8} (h:Srt (a :: l)) (ha:¬ a.1<s):isAt l s=false:=by
 rw [Bool.eq_false_iff];intro hi;obtain ⟨x,hx,rfl⟩:=Qjl.1 hi;exact ha (h.head x hx)
theorem del_none {l:List Ent} {s:List UInt8} (h:isAt l s=false):delE l s=l:=by
 unfold delE;rw [List.filter_eq_self];intro x hx;rw [Bool.eq_false_iff] at h;simp only [Bool.not_eq_true',beq_eq_false_iff_ne];exact fun e=>h (Qjl.2 ⟨x,hx,e⟩)
theorem take_del {l:List Ent} (h:Srt l) {s:List UInt8} (hi:isAt l s=true):l.take (pos l s)++l.drop (pos l s+1)=delE l s:=by
 induction l with
 | nil=>rfl
 | cons a l ih=>
  by_cases ha:a.1<s
  ·have hne:(a.1==s)=false:=by
    rw [beq_eq_false_iff_ne];rintro rfl;exact ltI ha
   rw [Qdm,hne,Bool.false_or] at hi;rw [pos_lt ha];simp only [List.take_succ_cons,List.drop_succ_cons,List.cons_append,delE,List.filter_cons,hne,Bool.not_false,if_true];rw [ih h.tail hi];rfl
  ·have hn:=Qml h ha;rw [Qdm,hn,Bool.or_false] at hi;rw [pos_ge h ha];simp only [List.take_zero,List.nil_append,Nat.zero_add,List.drop_succ_cons,List.drop_zero,delE,List.filter_cons,hi,Bool.not_true];exact (del_none hn).symm
theorem at_pos {l:List Ent} (h:Srt l) (s:List UInt8):(l[pos l s]?.any (fun x=>x.1==s))=isAt l s:=by
 induction l with
 | nil=>rfl
 | cons a l ih=>
  by_cases ha:a.1<s
  ·have hne:(a.1==s)=false:=by
    rw [beq_eq_false_iff_ne];rintro rfl;exact ltI ha
   rw [pos_lt ha,List.getElem?_cons_succ,ih h.tail,Qdm,hne,Bool.false_or]
  ·rw [pos_ge h ha,Qdm,Qml h ha,Bool.or_false];rfl
theorem get_pos {l:List Ent} (h:Srt l) {s:List UInt8} (hi:isAt l s=true):∃ x,l[pos l s]?=some x∧x.1=s∧getE l s=some x.2:=by
 induction l with
 | nil=>cases hi
 | cons a l ih=>
  by_cases ha:a.1<s
  ·have hne:(a.1==s)=false:=by
    rw [beq_eq_false_iff_ne];rintro rfl;exact ltI ha
   rw [Qdm,hne,Bool.false_or] at hi;obtain ⟨x,h1,h2,h3⟩:=ih h.tail hi;refine ⟨x,by rw [pos_lt ha,List.getElem?_cons_succ,h1],h2,?_⟩;unfold getE at h3 ⊢;rw [List.find?_cons,hne];exact h3
  ·rw [Qdm,Qml h ha,Bool.or_false] at hi;refine ⟨a,by rw [pos_ge h ha];rfl,by simpa using hi,?_⟩;unfold getE;rw [List.find?_cons,hi];rfl
theorem Qqb {l:List Ent} {s:List UInt8} (hi:isAt l s=false):getE l s=none:=by
 unfold getE;rw [Option.map_eq_none_iff,List.find?_eq_none];intro x hx e;rw [Bool.eq_false_iff] at hi;exact hi (Qjl.2 ⟨x,hx,by simpa using e⟩)
theorem get_some {l:List Ent} {s:List UInt8}:isAt l s=(getE l s).isSome:=by
 by_cases h:isAt l s=true
 ·obtain ⟨x,hx,e⟩:=Qjl.1 h;rw [h];unfold getE;rw [Option.isSome_map];symm;rw [List.find?_isSome];exact ⟨x,hx,by simpa using e⟩
 ·have h:isAt l s=false:=by simpa using h
  rw [h,Qqb h];rfl
theorem Zcj (l:List Ent) (x y:Ent):y∈insE l x↔y=x∨y∈l:=by
 induction l with
 | nil=>simp [insE]
 | cons a l ih=>
  unfold insE
  split
  ·simp only [List.mem_cons,ih];constructor
   ·rintro (h | h | h)<;>simp [h]
   ·rintro (h | h | h)<;>simp [h]
  ·simp
theorem Zll (l:List Ent) (x:Ent):(insE l x).length=l.length+1:=by
 induction l with
 | nil=>rfl
 | cons a l ih=>
  unfold insE
  split<;>simp [ih]
theorem srt_ins {l:List Ent} (h:Srt l) {x:Ent} (hi:isAt l x.1=false):Srt (insE l x):=by
 induction l with
 | nil=>exact List.pairwise_singleton _ _
 | cons a l ih=>
  rw [Qdm,Bool.or_eq_false_iff] at hi;unfold insE
  split
  ·rename_i ha;refine List.pairwise_cons.2 ⟨fun y hy=>?_,ih h.tail hi.2⟩;rcases (Zcj l x y).1 hy with rfl | hy
   ·exact ha
   ·exact h.head y hy
  ·rename_i ha;have hax:x.1<a.1:=Classical.byContradiction fun hn=>(beq_eq_false_iff_ne.1 hi.1) (ltA ha hn)
   refine List.pairwise_cons.2 ⟨fun y hy=>?_,h⟩;rcases List.mem_cons.1 hy with rfl | hy
   ·exact hax
   ·exact ltT hax (h.head y hy)
theorem get_ins {l:List Ent} {s t:List UInt8} {n:Int} (hi:isAt l s=false):getE (insE l (s,n)) t=if t=s then some n else getE l t:=by
 induction l with
 | nil=>
  by_cases h:t=s
  ·subst h;simp [getE,insE]
  ·simp [getE,insE,h,Ne.symm h]
 | cons a l ih=>
  rw [Qdm,Bool.or_eq_false_iff] at hi;have has:a.1 ≠ s:=beq_eq_false_iff_ne.1 hi.1;have ih:=ih hi.2;unfold insE
  split
  ·unfold getE at ih ⊢;by_cases hat:a.1=t
   ·have h1:(a.1==t)=true:=by simpa using hat
    have:t ≠ s:=hat ▸ has;simp [h1,this]
   ·have h1:(a.1==t)=false:=by simpa using hat
    rw [List.find?_cons,h1,List.find?_cons,h1];exact ih
  ·unfold getE;by_cases h:t=s
   ·subst h;simp
   ·have h1:(s==t)=false:=by simpa using Ne.symm h
    rw [List.find?_cons];simp [h1,h]
theorem del_ins {l:List Ent} {s:List UInt8} {n:Int} (hi:isAt l s=false):delE (insE l (s,n)) s=l:=by
 induction l with
 | nil=>simp [insE,delE]
 | cons a l ih=>
  have hd:=del_none hi;rw [Qdm,Bool.or_eq_false_iff] at hi;unfold insE
  split
  ·have h2:=ih hi.2;unfold delE at h2 ⊢;rw [List.filter_cons];simp only [hi.1,Bool.not_false,if_true,h2]
  ·unfold delE at hd ⊢;rw [List.filter_cons];simp only [beq_self_eq_true,Bool.not_true,Bool.false_eq_true,if_false];exact hd
theorem get_del {l:List Ent} {s t:List UInt8}:getE (delE l s) t=if t=s then none else getE l t:=by
 induction l with
 | nil=>simp [getE,delE]
 | cons a l ih=>
  unfold getE delE at ih ⊢;rw [List.filter_cons];by_cases has:a.1=s
  ·have h1:(a.1==s)=true:=by simpa using has
   simp only [h1,Bool.not_true,Bool.false_eq_true,if_false,ih];by_cases h:t=s
   ·simp [h]
   ·have h2:(a.1==t)=false:=by
     rw [beq_eq_false_iff_ne,has];exact Ne.symm h
    simp [h,h2]
  ·have h1:(a.1==s)=false:=by simpa using has
   simp only [h1,Bool.not_false,if_true];rw [List.find?_cons,List.find?_cons];by_cases hat:a.1=t
   ·have h2:(a.1==t)=true:=by simpa using hat
    have:t ≠ s:=hat ▸ has;simp [h2,this]
   ·have h2:(a.1==t)=false:=by simpa using hat
    simp only [h2];exact ih
theorem srt_del {l:List Ent} (h:Srt l) (s:List UInt8):Srt (delE l s):=List.Pairwise.filter _ h
theorem right_ins {l:List Ent} {s:List UInt8} {n:Int} (h:rightE l=true) (hs:okN s=true) (hn:1≤n) (hi:isAt l s=false) (hl:l.length<256):rightE (insE l (s,n))=true:=by
 rw [rightE_iff] at h ⊢;refine ⟨by rw [Zll];omega,fun x hx=>?_,srt_ins h.2.2 hi⟩;rcases (Zcj l _ x).1 hx with rfl | hx
 ·simp [okE,hs,hn]
 ·exact h.2.1 x hx
theorem Za6 {l:List Ent} (h:rightE l=true):Srt l:=((rightE_iff l).1 h).2.2
def enterF (l:List Ent) (s:List UInt8) (n:Int):List Ent × Int:=
 if okN s=false then (l,10) else if n<1 then (l,1) else if isAt l s=true then (l,7) else if 256≤l.length then (l,12) else (insE l (s,n),0)
def leaveF (l:List Ent) (s:List UInt8):List Ent × Int × Int:=if isAt l s=true then (delE l s,(getE l s).getD 0,0) else (l,0,6)
end Copyhold.Name
