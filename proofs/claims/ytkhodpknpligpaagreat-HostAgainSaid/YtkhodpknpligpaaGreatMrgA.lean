import Derived.Test.YtkhodpknpligpaaGreatAl
import Derived.WalkKit
import Derived.WalkLawsBesides
import Derived.WalkSpells
import Derived.Lib.Hide
import Derived.Lib.ConvBytes
import Derived.Maps.AppendAt
import Derived.Deep.RegionLaw
import Derived.OwnWalk
import Derived.Deep.AppendLies
import Derived.Laws.CopyRow
import Derived.Laws.IdiomCopy
import Derived.Laws.MakeOwn
import Derived.Orders
namespace Copyhold
open Go Go.RowKit
theorem ret2 {a a' b b':Value} (h1:a=a') (h2:b=b'):Ending.returned (.tuple #[a,b])=.returned (.tuple #[a',b']):=by rw [h1,h2]
@[go_sem] theorem cat (x y:List UInt8):(⟨x.toArray⟩:ByteArray)++⟨y.toArray⟩=⟨(x++y).toArray⟩:=by
 apply ByteArray.ext;simp
theorem Qza (l:List UInt8) (a b:Nat):(⟨l.toArray⟩:ByteArray).extract a b=⟨((l.take b).drop a).toArray⟩:=by
 apply ByteArray.ext;simp [List.drop_take]
theorem Qg3 {B:Nat} {a w:World} (h:Below B a w) {g:Nat} (hg:B≤g) (cs:Array Value):Below B a (w.setRow g cs):=
 h.trans ⟨rfl,rfl,rfl,by simp,fun k hk=>by simp only [World.setRow,Array.getElem?_modify];rw [W1w (by omega)]⟩
def strV (l:List UInt8):Value:=.string ⟨l.toArray⟩
def Row (w:World) (v:Value) (xs:List Value):Prop:=
 (∃ a c,v=.slice a 0 c∧xs=[]) ∨
 ∃ b off cap,v=.slice (some ⟨b,off,none⟩) xs.length cap∧0<xs.length∧xs.length≤cap∧b<w.heap.size∧∀ (i:Nat) x,xs[i]?=some x→w.cell? ⟨b,off+i,none⟩=some x
theorem Row.below {w w':World} {v:Value} {xs:List Value} (h:Row w v xs) (hb:Below w.heap.size w w'):Row w' v xs:=by
 rcases h with h | ⟨b,off,cap,rfl,h0,hc,hbk,hcell⟩
 ·exact .inl h
 ·have:=hb.size;exact .inr ⟨b,off,cap,rfl,h0,hc,by omega,fun i x hx=>(hb.cell (p:=⟨b,off+i,none⟩) hbk).trans (hcell i x hx)⟩
theorem Row.same {w w':World} {v:Value} {xs:List Value} (h:Row w v xs) (hh:w'.heap=w.heap):Row w' v xs:=by
 rcases h with h | ⟨b,off,cap,rfl,h0,hc,hbk,hcell⟩
 ·exact .inl h
 ·exact .inr ⟨b,off,cap,rfl,h0,hc,by rw [hh];exact hbk,fun i x hx=>by rw [← hcell i x hx];simp [World.cell?,hh]⟩
theorem Row.alloc {w:World} {v:Value} {xs:List Value} (h:Row w v xs) (o:Obj):Row (w.alloc o) v xs:=
 h.below ((Below.refl _ _).alloc (W0m _) o)
theorem Row.of_owns {w:World} {base:Nat} {e:TypeId} {v:Value} {n:Nat} {xs:List Value} (h:w.ownsRow base e 1 v n xs):Row w v xs:=by
 have hl:xs.length=n:=by simpa using h.1
 rcases h.2 with ⟨rfl,rfl⟩ | ⟨g,cap,cur,rfl,hb,hgg,hnc,_,_,htake⟩
 ·exact .inl ⟨none,0,rfl,W0l hl⟩
 ·by_cases h0:n=0
  ·subst h0;exact .inl ⟨_,cap,rfl,W0l hl⟩
  ·refine .inr ⟨g,0,cap,by rw [hl],by omega,by omega,(W06.1 hgg).1,fun i x hx=>?_⟩;have h':=h.cells (g:=g) rfl i x hx;have hadd:(⟨g,0,none⟩:Addr).add i=⟨g,0+i,none⟩:=by unfold Addr.add;split<;>simp_all
   rw [hadd] at h';exact h'
theorem Row.shape {w:World} {v:Value} {xs:List Value} (h:Row w v xs):∃ a c,v=.slice a xs.length c:=by
 rcases h with ⟨a,c,rfl,rfl⟩ | ⟨b,off,cap,rfl,_⟩
 ·exact ⟨a,c,rfl⟩
 ·exact ⟨_,cap,rfl⟩
theorem Row.at {w:World} {a:Option Addr} {n c:Nat} {xs:List Value} (h:Row w (.slice a n c) xs) (k:Nat) {x:Value} (hk:xs[k]?=some x) :
  ∃ b off,a=some ⟨b,off,none⟩∧b<w.heap.size∧xs.length≤c∧∀ (i:Nat) y,xs[i]?=some y→w.cell? ⟨b,off+i,none⟩=some y:=by
 rcases h with ⟨a',c',h,rfl⟩ | ⟨b,off,cap,h,h0,hc,hbk,hcell⟩
 ·simp at hk
 ·simp only [Value.slice.injEq] at h;obtain ⟨rfl,rfl,rfl⟩:=h;exact ⟨b,off,rfl,hbk,hc,hcell⟩
end Copyhold

namespace Copyhold
open Go Go.RowKit
theorem Qbb (b off j:Nat):(⟨b,off,none⟩:Addr).add j=⟨b,off+j,none⟩:=by unfold Addr.add;split<;>simp_all
theorem Qhv {B:Nat} {a w:World} (h:Below B a w) (n:Nat):Below B a (w.drewN n):=⟨h.os,h.tape,h.output,h.size,h.block⟩
def Sl (w:World) (k:Nat) (v:Value) (n:Nat) (xs:List Value):Prop:=
 ∃ A c,v=.slice A n c∧n≤c∧xs.length=n*k∧(0<n→∃ b off,A=some ⟨b,off,none⟩∧b<w.heap.size∧∀ j x,xs[j]?=some x→w.cell? ⟨b,off+j,none⟩=some x)
theorem Sl.below {w w':World} {k:Nat} {v:Value} {n:Nat} {xs:List Value} (h:Sl w k v n xs) (hb:Below w.heap.size w w'):Sl w' k v n xs:=by
 obtain ⟨A,c,rfl,hc,hl,hh⟩:=h;refine ⟨A,c,rfl,hc,hl,fun h0=>?_⟩;obtain ⟨b,off,rfl,hbk,hcell⟩:=hh h0;have:=hb.size;exact ⟨b,off,rfl,by omega,fun j x hx=>(hb.cell (p:=⟨b,off+j,none⟩) hbk).trans (hcell j x hx)⟩
theorem Sl.nil (w:World) (k:Nat):Sl w k (.slice none 0 0) 0 []:=⟨none,0,rfl,W0m _,by simp,fun h=>absurd h (by omega)⟩
theorem Sl.same {w w':World} {k:Nat} {v:Value} {n:Nat} {xs:List Value} (h:Sl w k v n xs) (hh:w'.heap=w.heap):Sl w' k v n xs:=by
 obtain ⟨A,c,rfl,hc,hl,hx⟩:=h;refine ⟨A,c,rfl,hc,hl,fun h0=>?_⟩;obtain ⟨b,off,rfl,hbk,hcell⟩:=hx h0;exact ⟨b,off,rfl,by rw [hh];exact hbk,fun j x hj=>by rw [← hcell j x hj];simp [World.cell?,hh]⟩
theorem Sl.row {w:World} {v:Value} {n:Nat} {xs:List Value} (h:Sl w 1 v n xs):Row w v xs:=by
 obtain ⟨A,c,rfl,hc,hl,hh⟩:=h;rw [Nat.mul_one] at hl;subst hl;by_cases h0:0<xs.length
 ·obtain ⟨b,off,rfl,hbk,hcell⟩:=hh h0;exact .inr ⟨b,off,c,rfl,h0,hc,hbk,hcell⟩
 ·have:xs=[]:=W0l (by omega);subst this;exact .inl ⟨A,c,rfl,rfl⟩
theorem Sl.of_owns {w:World} {base:Nat} {e:TypeId} {k:Nat} {v:Value} {n:Nat} {xs:List Value} (h:w.ownsRow base e k v n xs):Sl w k v n xs:=by
 rcases h.2 with ⟨rfl,rfl⟩ | ⟨g,cap,cur,rfl,hb,hgg,hnc,_,_,htake⟩
 ·exact ⟨none,0,rfl,W0m _,h.1,fun h=>absurd h (by omega)⟩
 ·refine ⟨_,cap,rfl,hnc,h.1,fun _=>⟨g,0,rfl,(W06.1 hgg).1,fun i x hx=>?_⟩⟩;have h':=h.cells (g:=g) rfl i x hx;rw [Qbb] at h';exact h'
theorem Sl.at {w:World} {k:Nat} {A:Option Addr} {n c:Nat} {xs:List Value} (h:Sl w k (.slice A n c) n xs) (hn:0<n) :
  ∃ b off,A=some ⟨b,off,none⟩∧b<w.heap.size∧n≤c∧xs.length=n*k∧∀ j x,xs[j]?=some x→w.cell? ⟨b,off+j,none⟩=some x:=by
 obtain ⟨A',c',he,hc,hl,hh⟩:=h;simp only [Value.slice.injEq] at he;obtain ⟨rfl,_,rfl⟩:=he;obtain ⟨b,off,rfl,hbk,hcell⟩:=hh hn;exact ⟨b,off,rfl,hbk,hc,hl,hcell⟩
theorem Sl.shape {w:World} {k:Nat} {v:Value} {n:Nat} {xs:List Value} (h:Sl w k v n xs):∃ A c,v=.slice A n c∧n≤c∧xs.length=n*k:=by
 obtain ⟨A,c,rfl,hc,hl,_⟩:=h;exact ⟨A,c,rfl,hc,hl⟩
def Elem (P:Program) (t e:TypeId) (z:Value) (size bytes:Nat):Prop:=
 P.underlying t=some (.slice e)∧(P.info? e).map (fun i=>(i.zero,i.size,i.bytes))=some (some z,size,bytes)∧z.cells.size=size∧0<size
theorem Qgq {P:Program} {e:TypeId} {z:Value} {size bytes:Nat} (h:(P.info? e).map (fun i=>(i.zero,i.size,i.bytes))=some (some z,size,bytes)) :
  ∃ i,P.info? e=some i∧i.zero=some z∧i.size=size∧i.bytes=bytes:=by
 cases hi:P.info? e with
 | none=>rw [hi] at h;cases h
 | some i=>
  rw [hi] at h;simp at h;exact ⟨i,rfl,h.1,h.2.1,h.2.2⟩
theorem Qth {P:Program} {t e:TypeId} {z:Value} {size bytes:Nat} (E:Elem P t e z size bytes) (w:World) (base:Nat) (ty:TypeId) (v:Value) (n:Nat) (xs:List Value) (hown:w.ownsRow base e size v n xs)
  (sv:Value) (m:Nat) (news:List Value) (hs:Sl w size sv m news) (h1:∀ u∈news,u.oneCell'=true)
  (h63:n+m≤maxLen) (hbytes:(n+m)*bytes≤140737488355328) (hbase:base≤w.heap.size) :
  ∃ v' w',(Builtin.append_ #[t,t] ty #[v,sv]).run P w=.ok v' w'∧w'.ownsRow base e size v' (n+m) (xs++news)∧w.grownBy w' v.ownBlock∧(v'.ownBlock=v.ownBlock∨v'.ownBlock=some w.heap.size):=by
 obtain ⟨ht,hinf,hzs,hsz⟩:=E;obtain ⟨i,hi,hz,hsize,hby⟩:=Qgq hinf;obtain ⟨A,c,rfl,hc,hl,hh⟩:=hs;by_cases h0:0<m
 ·obtain ⟨b,off,rfl,hbk,hcell⟩:=hh h0;obtain ⟨v',w',hr,h2,h3,_,h5⟩:=run_append_own_at (P:=P) w base t ty e i z size bytes ht hi hz hsize hby hzs hsz v n xs hown ⟨b,off,none⟩ m c news hl (fun j u hu=>by rw [Qbb];exact hcell j u hu) h1 h63 hbytes hbase;exact ⟨v',w',hr,h2,h3,h5⟩
 ·obtain rfl:m=0:=by omega
  obtain rfl:news=[]:=W0l (by simpa using hl);cases A with
  | some a=>
   obtain ⟨v',w',hr,h2,h3,_,h5⟩:=run_append_own_at (P:=P) w base t ty e i z size bytes ht hi hz hsize hby hzs hsz v n xs hown a 0 c [] (by simp) (fun j u hu=>by simp at hu) h1 h63 hbytes hbase;exact ⟨v',w',hr,h2,h3,h5⟩
  | none=>
   refine ⟨v,w,?_,by simpa using hown,World.grownBy.refl w _,.inl rfl⟩;rcases hown.2 with ⟨rfl,rfl⟩ | ⟨g,cap,cur,rfl,_,_,hnc,_⟩
   ·simp [Builtin.append_,run_underlying ht,Go.sizeOf,typeInfo,hi,Builtin.lenOf,Builtin.firstCells]
   ·simp [Builtin.append_,run_underlying ht,Go.sizeOf,typeInfo,hi,Builtin.lenOf,Builtin.firstCells,hnc,storeCells]
theorem Qe7 {w:World} {base:Nat} {e:TypeId} {k:Nat} {v:Value} {n:Nat} {xs:List Value} (h:w.ownsRow base e k v n xs):∀ g,v.ownBlock=some g→base≤g∧g<w.heap.size:=by
 intro g hg;rcases h.2 with ⟨rfl,rfl⟩ | ⟨g',cap,cur,rfl,hb,hgg,_⟩
 ·simp [Value.ownBlock] at hg
 ·have:g'=g:=by simpa [Value.ownBlock] using hg
  subst this;exact ⟨hb,(W06.1 hgg).1⟩
theorem Qgd (w:World) (p:Addr) (u:Value) (k:Nat) (h:k ≠ p.block):(w.setCell p u).heap[k]?=w.heap[k]?:=Below.heap_setCell w p u k h
theorem Qvo {w:World} {b o:Nat} {v:Value} (h:w.cell? ⟨b,o,none⟩=some v):b<w.heap.size:=by
 rcases Nat.lt_or_ge b w.heap.size with hl | hl
 ·exact hl
 ·simp only [World.cell?,Array.getElem?_eq_none hl] at h;cases h
theorem Qjn {W w1:World} (hb:Below W.heap.size W w1) {b o:Nat} {v:Value} (h:W.cell? ⟨b,o,none⟩=some v):w1.cell? ⟨b,o,none⟩=some v:=
 (hb.cell (p:=⟨b,o,none⟩) (Qvo h)).trans h
theorem Zjf (W:World) (cs:Array Value) (t:TypeId) (i:Nat):(W.alloc (.cells cs t)).cell? ⟨W.heap.size,i,none⟩=cs[i]?:=by
 simp only [World.cell?,heap_alloc_new];rfl
theorem put2 {w:World} {g:Nat} (u v:Value) {u0 v0:Value} (q0:w.cell? ⟨g,0,none⟩=some u0) (q1:w.cell? ⟨g,1,none⟩=some v0) :
  ((w.setCell ⟨g,0,none⟩ u).setCell ⟨g,1,none⟩ v).cell? ⟨g,0,none⟩=some u∧((w.setCell ⟨g,0,none⟩ u).setCell ⟨g,1,none⟩ v).cell? ⟨g,1,none⟩=some v ∧
  (∀ k,k ≠ g→((w.setCell ⟨g,0,none⟩ u).setCell ⟨g,1,none⟩ v).heap[k]?=w.heap[k]?)∧((w.setCell ⟨g,0,none⟩ u).setCell ⟨g,1,none⟩ v).heap.size=w.heap.size ∧
  ∀ o,((w.setCell ⟨g,0,none⟩ u).setCell ⟨g,1,none⟩ v).frozen? ⟨g,o,none⟩=w.frozen? ⟨g,o,none⟩:=by
 refine ⟨?_,?_,fun k hk=>?_,by simp,fun o=>by simp [go_sem]⟩
 ·rw [World.cell?_setCell_other _ _ _ _ (by intro h;simp at h),World.cell?_setCell_same _ _ _ q0]
 ·rw [World.cell?_setCell_same _ _ _ (show _=some v0 by rw [World.cell?_setCell_other _ _ _ _ (by intro h;simp at h)];exact q1)]
 ·rw [Below.heap_setCell _ _ _ _ hk,Below.heap_setCell _ _ _ _ hk]
def At (D:Nat→Prop):Value→Prop
 | .slice (some a) n _=>0<n→D a.block
 | _=>True
theorem At.mono {D D':Nat→Prop} {v:Value} (h:At D v) (hd:∀ b,D b→D' b):At D' v:=by
 unfold At at h ⊢
 split
 ·exact fun h0=>hd _ (h h0)
 ·trivial
theorem At.of_owns {w:World} {base:Nat} {e:TypeId} {k:Nat} {v:Value} {n:Nat} {xs:List Value} (h:w.ownsRow base e k v n xs):At (base≤·) v:=by
 rcases h.2 with ⟨rfl,rfl⟩ | ⟨g,cap,cur,rfl,hb,_⟩
 ·trivial
 ·exact fun _=>hb
theorem Row.lies {w:World} {v:Value} {xs:List Value} (h:Row w v xs):At (·<w.heap.size) v:=by
 rcases h with ⟨a,c,rfl,rfl⟩ | ⟨b,off,cap,rfl,h0,hc,hbk,hcell⟩
 ·cases a
  ·trivial
  ·exact fun h=>absurd h (by omega)
 ·exact fun _=>hbk
theorem Row.frame {D:Nat→Prop} {w w':World} {v:Value} {xs:List Value} (h:Row w v xs) (hat:At D v) (hk:∀ b,D b→b<w.heap.size→w'.heap[b]?=w.heap[b]?) (hs:w.heap.size≤w'.heap.size):Row w' v xs:=by
 rcases h with h | ⟨b,off,cap,rfl,h0,hc,hbk,hcell⟩
 ·exact .inl h
 ·exact .inr ⟨b,off,cap,rfl,h0,hc,by omega,fun i x hx=>by rw [← hcell i x hx];exact World.cell?_of_block (hk b (hat h0) hbk)⟩
theorem Sl.lies {w:World} {k:Nat} {v:Value} {n:Nat} {xs:List Value} (h:Sl w k v n xs):At (·<w.heap.size) v:=by
 obtain ⟨A,c,rfl,hc,hl,hh⟩:=h;cases A
 ·trivial
 ·intro h0;obtain ⟨b,off,he,hbk,_⟩:=hh h0;injection he with he
  subst he;exact hbk
theorem Sl.frame {D:Nat→Prop} {w w':World} {k:Nat} {v:Value} {n:Nat} {xs:List Value} (h:Sl w k v n xs) (hat:At D v) (hk:∀ b,D b→b<w.heap.size→w'.heap[b]?=w.heap[b]?) (hs:w.heap.size≤w'.heap.size):Sl w' k v n xs:=by
 obtain ⟨A,c,rfl,hc,hl,hh⟩:=h;refine ⟨A,c,rfl,hc,hl,fun h0=>?_⟩;obtain ⟨b,off,rfl,hbk,hcell⟩:=hh h0;exact ⟨b,off,rfl,by omega,fun j x hx=>by rw [← hcell j x hx];exact World.cell?_of_block (hk b (hat h0) hbk)⟩
end Copyhold

set_option linter.unusedVariables false
namespace Copyhold
open Go Go.RowKit
def BoxT (w:World) (B:Nat) (s:List UInt8) (e:Int):Prop:=
 w.cell? ⟨B,0,none⟩=some (.string ⟨s.toArray⟩)∧w.cell? ⟨B,1,none⟩=some (.int .i64 e)∧w.frozen? ⟨B,0,none⟩=false∧w.frozen? ⟨B,1,none⟩=false
def Qg7 (w:World) (B:Nat) (s:List UInt8) (e:Int) (w':World):Prop:=
 ∃ w1,Below w.heap.size w w1∧w'=(w1.setCell ⟨B,0,none⟩ (.string ⟨s.toArray⟩)).setCell ⟨B,1,none⟩ (.int .i64 e)
theorem BoxT.below {w w':World} {B:Nat} {s:List UInt8} {e:Int} (h:BoxT w B s e) (hb:Below w.heap.size w w'):BoxT w' B s e:=by
 obtain ⟨h0,h1,h2,h3⟩:=h;have hB:=Qvo h0;exact ⟨Qjn hb h0,Qjn hb h1,(hb.frozen (p:=⟨B,0,none⟩) hB).trans h2,(hb.frozen (p:=⟨B,1,none⟩) hB).trans h3⟩
theorem Qg7.box {w w':World} {B:Nat} {s s':List UInt8} {e e':Int} (h:Qg7 w B s e w') (hb:BoxT w B s' e'):BoxT w' B s e:=by
 obtain ⟨w1,hw,rfl⟩:=h;obtain ⟨h0,h1,h2,h3⟩:=hb.below hw;have hp:=put2 (w:=w1) (g:=B) (.string ⟨s.toArray⟩) (.int .i64 e) h0 h1;exact ⟨hp.1,hp.2.1,(hp.2.2.2.2 0).trans h2,(hp.2.2.2.2 1).trans h3⟩
theorem Qg7.below {w w' a:World} {B base:Nat} {s:List UInt8} {e:Int} (h:Qg7 w B s e w') (hb:Below base a w) (hB:base≤B) (hs:base≤w.heap.size):Below base a w':=by
 obtain ⟨w1,hw,rfl⟩:=h;exact ((hb.trans (hw.mono hs)).setCell (p:=⟨B,0,none⟩) hB _).setCell (p:=⟨B,1,none⟩) hB _
theorem Qg7.size {w w':World} {B:Nat} {s:List UInt8} {e:Int} (h:Qg7 w B s e w'):w.heap.size≤w'.heap.size:=by
 obtain ⟨w1,hw,rfl⟩:=h;have:=hw.size;simpa using this
theorem Qg7.cell {w w':World} {B:Nat} {s:List UInt8} {e:Int} (h:Qg7 w B s e w') {b o:Nat} {v:Value} (hc:w.cell? ⟨b,o,none⟩=some v) (hne:b ≠ B∨2≤o):w'.cell? ⟨b,o,none⟩=some v:=by
 obtain ⟨w1,hw,rfl⟩:=h;rw [World.cell?_setCell_other _ _ _ _ (by intro h;simp at h;omega),World.cell?_setCell_other _ _ _ _ (by intro h;simp at h;omega)];exact Qjn hw hc
theorem Qg7.frozen {w w':World} {B:Nat} {s:List UInt8} {e:Int} (h:Qg7 w B s e w') {b o:Nat} (hc:w.frozen? ⟨b,o,none⟩=false) (hb:b<w.heap.size):w'.frozen? ⟨b,o,none⟩=false:=by
 obtain ⟨w1,hw,rfl⟩:=h;have:=(hw.frozen (p:=⟨b,o,none⟩) hb).trans hc;simpa [go_sem] using this
theorem Qg7.block {w w':World} {B:Nat} {s:List UInt8} {e:Int} (h:Qg7 w B s e w') {k:Nat} (hk:k ≠ B) (hs:k<w.heap.size):w'.heap[k]?=w.heap[k]?:=by
 obtain ⟨w1,hw,rfl⟩:=h;rw [Qgd _ _ _ _ (by simpa using hk),Qgd _ _ _ _ (by simpa using hk)];exact hw.block k hs
theorem Qg7.trans {w w1 w2:World} {B:Nat} {s s1:List UInt8} {e e1:Int} (h:Qg7 w B s1 e1 w1) (k:Qg7 w1 B s e w2) (hB:B<w.heap.size) {s0:List UInt8} {e0:Int} (h0:BoxT w B s0 e0) :
  (∀ b o v,w.cell? ⟨b,o,none⟩=some v→(b ≠ B∨2≤o)→w2.cell? ⟨b,o,none⟩=some v)∧(∀ b o,b<w.heap.size→w.frozen? ⟨b,o,none⟩=false→w2.frozen? ⟨b,o,none⟩=false)∧w.heap.size≤w2.heap.size∧BoxT w2 B s e:=
 ⟨fun b o v hc hne=>k.cell (h.cell hc hne) hne,fun b o hb hc=>k.frozen (h.frozen hc hb) (W08 hb h.size),W09 h.size k.size,k.box (h.box h0)⟩
def TBox (w:World) (B:Nat) (T:TypeId) (cs:Array Value):Prop:=w.heap[B]?=some (.cells cs T (0,0))
theorem TBox.lt {w:World} {B:Nat} {T:TypeId} {cs:Array Value} (h:TBox w B T cs):B<w.heap.size:=(W06.1 h).1
theorem TBox.cell {w:World} {B:Nat} {T:TypeId} {cs:Array Value} (h:TBox w B T cs) (o:Nat):w.cell? ⟨B,o,none⟩=cs[o]?:=by
 unfold TBox at h;simp [World.cell?,h]
theorem TBox.set {w:World} {B:Nat} {T:TypeId} {cs:Array Value} (h:TBox w B T cs) (o:Nat) (v:Value):TBox (w.setCell ⟨B,o,none⟩ v) B T (cs.setIfInBounds o v):=by
 unfold TBox at h ⊢;have hB:=(W06.1 h).1;simp [World.setCell,Array.getElem?_modify,h]
theorem TBox.below {w w':World} {B:Nat} {T:TypeId} {cs:Array Value} (h:TBox w B T cs) (hb:Below w.heap.size w w'):TBox w' B T cs:=by
 unfold TBox at h ⊢;rw [hb.block B (W06.1 h).1];exact h
theorem TBox.new (w:World) (T:TypeId) (cs:Array Value):TBox (w.alloc (.cells cs T)) w.heap.size T cs:=heap_alloc_new w _
def Qv3 (w:World) (B:Nat) (s:List UInt8) (e:Int) (w':World):Prop:=
 (∀ T cs,TBox w B T cs→TBox w' B T ((cs.setIfInBounds 0 (.string ⟨s.toArray⟩)).setIfInBounds 1 (.int .i64 e))) ∧
 (∀ k,k ≠ B→k<w.heap.size→w'.heap[k]?=w.heap[k]?)∧w.heap.size≤w'.heap.size ∧
 (∀ base a,Below base a w→base≤B→base≤w.heap.size→Below base a w')
theorem Qg7.r {w w':World} {B:Nat} {s:List UInt8} {e:Int} (h:Qg7 w B s e w'):Qv3 w B s e w':=by
 refine ⟨fun T cs hT=>?_,fun k hk hs=>h.block hk hs,h.size,fun base a hb hB hs=>h.below hb hB hs⟩;obtain ⟨w1,hw,rfl⟩:=h;exact ((hT.below hw).set 0 _).set 1 _
theorem Qv3.refl {w:World} {B:Nat} {T:TypeId} {s:List UInt8} {e:Int} {cs:Array Value} (h:TBox w B T cs) (h0:cs[0]?=some (.string ⟨s.toArray⟩)) (h1:cs[1]?=some (.int .i64 e)):Qv3 w B s e w:=by
 refine ⟨fun T' cs' hT=>?_,fun k _ _=>rfl,W0m _,fun base a hb _ _=>hb⟩;have he:Obj.cells cs' T' (0,0)=.cells cs T (0,0):=W0c (hT.symm.trans h);simp only [Obj.cells.injEq,and_true] at he;obtain ⟨rfl,rfl⟩:=he;have e0:cs'.setIfInBounds 0 (.string ⟨s.toArray⟩)=cs':=by
  apply Array.ext
  ·simp
  ·intro i h2 h3;rw [Array.getElem_setIfInBounds (by simpa using h3)]
   split
   ·rename_i hi;subst hi;rw [W1p h3] at h0;exact (W0c h0).symm
   ·rfl
 have e1:cs'.setIfInBounds 1 (.int .i64 e)=cs':=by
  apply Array.ext
  ·simp
  ·intro i h2 h3;rw [Array.getElem_setIfInBounds (by simpa using h3)]
   split
   ·rename_i hi;subst hi;rw [W1p h3] at h1;exact (W0c h1).symm
   ·rfl
 rw [e0,e1];exact hT
theorem Qv3.trans {w w1 w2:World} {B:Nat} {s s1:List UInt8} {e e1:Int} (h:Qv3 w B s1 e1 w1) (k:Qv3 w1 B s e w2):Qv3 w B s e w2:=by
 refine ⟨fun T cs hT=>?_,fun j hj hs=>(k.2.1 j hj (W08 hs h.2.2.1)).trans (h.2.1 j hj hs),W09 h.2.2.1 k.2.2.1,fun base a hb hB hs=>k.2.2.2 base a (h.2.2.2 base a hb hB hs) hB (W09 hs h.2.2.1)⟩;have:=k.1 T _ (h.1 T cs hT);have e:(((cs.setIfInBounds 0 (.string ⟨s1.toArray⟩)).setIfInBounds 1 (.int .i64 e1)).setIfInBounds 0 (.string ⟨s.toArray⟩)).setIfInBounds 1 (.int .i64 e)=(cs.setIfInBounds 0 (.string ⟨s.toArray⟩)).setIfInBounds 1 (.int .i64 e):=by
  apply Array.ext_getElem?;intro i;simp only [Array.getElem?_setIfInBounds,Array.size_setIfInBounds]
  split
  ·rfl
  ·split
   ·rfl
   ·rfl
 rw [e] at this;exact this
end Copyhold

namespace Copyhold
open Go Go.RowKit
inductive MK where
 | i (z:Int)
 | s (l:List UInt8)
 deriving DecidableEq
def MK.val:MK→Value
 | .i z=>.int .i64 z
 | .s l=>.string ⟨⟨l⟩⟩
inductive AV where
 | val (v:Value)
 | any
 | sl (k:Nat) (t:Bool) (xs:List (List AV))
 | agg (cs:List AV)
 | dptr (cs:List AV)
 | tup (l:List AV)
 | ptr (id b off:Nat)
 | rw (id:Nat) (V:Value) (n:Nat)
 | ep (id:Nat) (V:Value) (k i off:Nat)
 | clo (f:FuncId) (caps:List AV)
 | mp (es:List (MK × AV))
 | mref (id r:Nat)
 | pre (k:Nat) (xs:List (List AV)) (i:Nat)
 | rs (id:Nat) (V:Value) (k lo:Nat)
def Born (es:Array MapEntry) (clock:Nat):Prop:=(∀ x∈es.toList,x.born<clock)∧(es.toList.map (·.born)).Nodup
theorem Zaa (clock:Nat):Born #[] clock:=⟨by simp,by simp⟩
theorem Zfl {es:Array MapEntry} {clock:Nat} (h:Born es clock) (k v:Value):Born (es.push { key:=k,val:=v,born:=clock }) (clock+1):=by
 refine ⟨fun x hx=>?_,?_⟩
 ·simp only [Array.toList_push,W04,W0z] at hx;rcases hx with hx | rfl
  ·have:=h.1 x hx;omega
  ·exact Nat.lt_succ_self _
 ·simp only [Array.toList_push,W1r,W1t,List.map_nil];rw [List.nodup_append];refine ⟨h.2,by simp,fun a ha b hb=>?_⟩;obtain ⟨x,hx,rfl⟩:=W1i.1 ha;obtain rfl:=W0z.1 hb;have:=h.1 x hx;exact Nat.ne_of_lt this
inductive Ra (D:Nat→Prop) (w:World):AV→Value→Prop
 | val (v:Value):Ra D w (.val v) v
 | any (v:Value):Ra D w .any v
 | sl (k:Nat) (t:Bool) (xs:List (List AV)) (A:Option Addr) (c b off:Nat) (vs:Nat→Nat→Value) :
   xs.length≤c→(t=true→c=xs.length)→(0<xs.length→A=some ⟨b,off,none⟩∧D b∧b<w.heap.size) →
   (∀ (i:Nat) (e:List AV),xs[i]?=some e→e.length=k) →
   (∀ (i:Nat) (e:List AV) (j:Nat) (x:AV),xs[i]?=some e→e[j]?=some x→w.cell? ⟨b,off+(i*k+j),none⟩=some (vs i j)∧(vs i j).oneCell'=true) →
   (∀ (i:Nat) (e:List AV) (j:Nat) (x:AV),xs[i]?=some e→e[j]?=some x→Ra D w x (vs i j))→Ra D w (.sl k t xs) (.slice A xs.length c)
 | agg (cs:List AV) (vs:Array Value):cs.length=vs.size→(∀ (j:Nat) (v:Value),vs[j]?=some v→v.oneCell'=true) →
   (∀ (j:Nat) (x:AV) (v:Value),cs[j]?=some x→vs[j]?=some v→Ra D w x v)→Ra D w (.agg cs) (.agg vs)
 | dptr (cs:List AV) (b off:Nat) (vs:Nat→Value):D b→b<w.heap.size →
   (∀ (j:Nat) (x:AV),cs[j]?=some x→w.cell? ⟨b,off+j,none⟩=some (vs j)∧(vs j).oneCell'=true) →
   (∀ (j:Nat) (x:AV),cs[j]?=some x→Ra D w x (vs j))→Ra D w (.dptr cs) (.pointer (some ⟨b,off,none⟩))
 | tup (l:List AV) (vs:Array Value):l.length=vs.size→(∀ (j:Nat) (x:AV) (v:Value),l[j]?=some x→vs[j]?=some v→Ra D w x v)→Ra D w (.tup l) (.tuple vs)
 | ptr (id b off:Nat):Ra D w (.ptr id b off) (.pointer (some ⟨b,off,none⟩))
 | rw (id n c:Nat) (A:Option Addr):Ra D w (.rw id (.slice A n c) n) (.slice A n c)
 | ep (id b n cap k i off:Nat):Ra D w (.ep id (.slice (some ⟨b,0,none⟩) n cap) k i off) (.pointer (some ⟨b,i*k+off,none⟩))
 | clo (f:FuncId) (caps:List AV) (vs:Array Value):caps.length=vs.size→(∀ (j:Nat) (x:AV) (v:Value),caps[j]?=some x→vs[j]?=some v→Ra D w x v)→Ra D w (.clo f caps) (.func (.func f) #[] vs)
 | mp (es:List (MK × AV)) (r:Nat) (es':Array MapEntry) (clock:Nat):D r→r<w.heap.size→w.heap[r]?=some (.map es' clock)→(es.length=es'.size∧Born es' clock) →
   (∀ (j:Nat) (p:MK × AV) (e:MapEntry),es[j]?=some p→es'[j]?=some e→e.key=p.1.val) →
   (∀ (j:Nat) (p:MK × AV) (e:MapEntry),es[j]?=some p→es'[j]?=some e→Ra D w p.2 e.val)→Ra D w (.mp es) (.map (some r))
 | mref (id r:Nat):Ra D w (.mref id r) (.map (some r))
 | pre (k:Nat) (xs:List (List AV)) (i:Nat) (A:Option Addr) (c:Nat):Ra D w (.sl k true xs) (.slice A xs.length c)→i≤xs.length→Ra D w (.pre k xs i) (.slice A i c)
 | rs (id b n cap k lo:Nat):lo<n→Ra D w (.rs id (.slice (some ⟨b,0,none⟩) n cap) k lo) (.slice (some ⟨b,lo*k,none⟩) (n-lo) (cap-lo))
theorem Ra.frame {D D':Nat→Prop} {w w':World} {x:AV} {v:Value} (h:Ra D w x v) (hD:∀ b,D b→D' b) (hs:w.heap.size≤w'.heap.size)
  (hk:∀ b,D b→b<w.heap.size→w'.heap[b]?=w.heap[b]?):Ra D' w' x v:=by
 induction h with
 | val v=>exact .val v
 | any v=>exact .any v
 | sl k t xs A c b off vs h1 h2 h3 h4 h5 h6 ih=>
  by_cases h0:0<xs.length
  ·obtain ⟨hA,hDb,hb⟩:=h3 h0;exact .sl k t xs A c b off vs h1 h2 (fun _=>⟨hA,hD b hDb,W08 hb hs⟩) h4
    (fun i e j x he hx=>⟨(World.cell?_of_block (hk b hDb hb)).trans (h5 i e j x he hx).1,(h5 i e j x he hx).2⟩) ih
  ·have hx:xs=[]:=W0l (by omega);subst hx;exact .sl k t [] A c b off vs h1 h2 (fun h=>absurd h h0) (fun i e h=>by simp at h) (fun i e j x h=>by simp at h) (fun i e j x h=>by simp at h)
 | agg cs vs h1 h2 h3 ih=>exact .agg cs vs h1 h2 ih
 | dptr cs b off vs h1 h2 h3 h4 ih=>
  exact .dptr cs b off vs (hD b h1) (W08 h2 hs) (fun j x hx=>⟨(World.cell?_of_block (hk b h1 h2)).trans (h3 j x hx).1,(h3 j x hx).2⟩) ih
 | tup l vs h1 h2 ih=>exact .tup l vs h1 ih
 | ptr id b off=>exact .ptr id b off
 | rw id n c A=>exact .rw id n c A
 | ep id b n cap k i off=>exact .ep id b n cap k i off
 | clo f caps vs h1 h2 ih=>exact .clo f caps vs h1 ih
 | mp es r es' clock h1 h2 h3 h4 h5 h6 ih=>exact .mp es r es' clock (hD r h1) (W08 h2 hs) ((hk r h1 h2).trans h3) h4 h5 ih
 | mref id r=>exact .mref id r
 | pre k xs i A c h1 h2 ih=>exact .pre k xs i A c ih h2
 | rs id b n cap k lo h=>exact .rs id b n cap k lo h
inductive Bx where
 | box (b:Nat) (T:TypeId) (cs:List AV)
 | row (V:Value) (e:TypeId) (k:Nat) (xs:List (List AV))
 | mp (r:Nat) (es:List (MK × AV))
 | iter (b:Nat) (es:List (MK × AV)) (seen:List Nat)
def Bx.blk:Bx→Option Nat
 | .box b _ _=>some b
 | .row V _ _ _=>V.ownBlock
 | .mp r _=>some r
 | .iter b _ _=>some b
def BoxR (D:Nat→Prop) (w:World):Bx→Prop
 | .box b T cs=>∃ vs:Array Value,TBox w b T vs∧vs.size=cs.length∧(∀ (j:Nat) (v:Value),vs[j]?=some v→v.oneCell'=true)∧∀ (j:Nat) (a:AV) (v:Value),cs[j]?=some a→vs[j]?=some v→Ra D w a v
 | .row V e k xs=>(∀ l∈xs,l.length=k)∧∃ us:List Value,w.ownsRow 0 e k V xs.length us∧(∀ u∈us,u.oneCell'=true)∧∀ (j:Nat) (a:AV) (u:Value),xs.flatten[j]?=some a→us[j]?=some u→Ra D w a u
 | .mp r es=>∃ (es':Array MapEntry) (clock:Nat),w.heap[r]?=some (.map es' clock)∧(es.length=es'.size∧Born es' clock)∧(∀ (j:Nat) (p:MK × AV) (e:MapEntry),es[j]?=some p→es'[j]?=some e→e.key=p.1.val) ∧
   ∀ (j:Nat) (p:MK × AV) (e:MapEntry),es[j]?=some p→es'[j]?=some e→Ra D w p.2 e.val
 | .iter b es seen=>∃ (r:Nat) (es':Array MapEntry) (clock:Nat) (sn:Array Nat),w.heap[b]?=some (.mapIter (some r) clock sn clock)∧D r∧r<w.heap.size∧w.heap[r]?=some (.map es' clock)∧(es.length=es'.size∧Born es' clock) ∧
   (∀ (j:Nat) (p:MK × AV) (e:MapEntry),es[j]?=some p→es'[j]?=some e→e.key=p.1.val)∧(∀ (j:Nat) (p:MK × AV) (e:MapEntry),es[j]?=some p→es'[j]?=some e→Ra D w p.2 e.val) ∧
   (∀ (j:Nat) (e:MapEntry),es'[j]?=some e→(sn.contains e.born=true↔j∈seen))∧∀ j,seen.head?=some j→∃ e,es'[j]?=some e∧sn.back?=some e.born
theorem Qmi {w w':World} {e:TypeId} {k n:Nat} {V:Value} {us:List Value} (h:w.ownsRow 0 e k V n us) (hb:∀ g,V.ownBlock=some g→w'.heap[g]?=w.heap[g]?):w'.ownsRow 0 e k V n us:=by
 refine ⟨h.1,?_⟩;rcases h.2 with h' | ⟨g,cap,cur,rfl,hg,hgg,r⟩
 ·exact .inl h'
 ·exact .inr ⟨g,cap,cur,rfl,hg,by rw [hb g rfl];exact hgg,r⟩
theorem Zls {w:World} {e:TypeId} {k n:Nat} {V:Value} {us:List Value} (h:w.ownsRow 0 e k V n us) {g:Nat} (hg:V.ownBlock=some g):g<w.heap.size:=(Qe7 h g hg).2
theorem BoxR.frame {D D':Nat→Prop} {w w':World} {x:Bx} (h:BoxR D w x) (hD:∀ b,D b→D' b) (hs:w.heap.size≤w'.heap.size)
  (hk:∀ b,D b→b<w.heap.size→w'.heap[b]?=w.heap[b]?) (hx:∀ g,x.blk=some g→w'.heap[g]?=w.heap[g]?):BoxR D' w' x:=by
 cases x with
 | box b T cs=>
  obtain ⟨vs,h1,h2,h3,h4⟩:=h;exact ⟨vs,(hx b rfl).trans h1,h2,h3,fun j a v ha hv=>(h4 j a v ha hv).frame hD hs hk⟩
 | row V e k xs=>
  obtain ⟨h0,us,h1,h2,h3⟩:=h;exact ⟨h0,us,Qmi h1 hx,h2,fun j a v ha hv=>(h3 j a v ha hv).frame hD hs hk⟩
 | mp r es=>
  obtain ⟨es',clock,h1,h2,h3,h4⟩:=h;exact ⟨es',clock,(hx r rfl).trans h1,h2,h3,fun j p e hp he=>(h4 j p e hp he).frame hD hs hk⟩
 | iter b es seen=>
  obtain ⟨r,es',clock,sn,h1,h2,h3,h4,h5,h6,h7,h8,h9⟩:=h;exact ⟨r,es',clock,sn,(hx b rfl).trans h1,hD r h2,W08 h3 hs,(hk r h2 h3).trans h4,h5,h6,fun j p e hp he=>(h7 j p e hp he).frame hD hs hk,h8,h9⟩
theorem BoxR.lt {D:Nat→Prop} {w:World} {x:Bx} (h:BoxR D w x) {g:Nat} (hg:x.blk=some g):g<w.heap.size:=by
 cases x with
 | box b T cs=>
  obtain ⟨vs,h1,_⟩:=h;obtain rfl:=W0c hg;exact h1.lt
 | row V e k xs=>
  obtain ⟨h0,us,h1,_⟩:=h;exact Zls h1 hg
 | mp r es=>
  obtain ⟨es',clock,h1,_⟩:=h;obtain rfl:=W0c hg;exact (W06.1 h1).1
 | iter b es seen=>
  obtain ⟨r,es',clock,sn,h1,_⟩:=h;obtain rfl:=W0c hg;exact (W06.1 h1).1
structure FS where
 tm:Nat→AV
 bx:Nat→Option Bx
def FS.ev (s:FS):Operand→AV
 | .tmp t=>s.tm t
 | .const v=>.val v
 | .global g=>.val (.pointer (some ⟨g,0,none⟩))
 | .func f=>.val (.func (.func f) #[] #[])
def FS.put (s:FS) (d:Option Tmp) (x:AV):FS:=
 match d with
 | some d=>{ s with tm:=fun t=>if t=d then x else s.tm t }
 | none=>s
def FS.setB (s:FS) (id:Nat) (y:Option Bx):FS:={ s with bx:=fun i=>if i=id then y else s.bx i }
def FS.addB (s:FS):Option (Nat × Bx)→FS
 | none=>s
 | some (id,y)=>s.setB id (some y)
structure Cx where
 base:Nat
 w0:World
 n:Nat
 D0:Nat→Prop
 lent:Nat→Prop
def Cx.own (c:Cx) (b:Nat):Prop:=c.base≤b∨c.lent b
structure BelowL (c:Cx) (w':World):Prop where
 os:w'.os=c.w0.os
 tape:w'.tape=c.w0.tape
 output:w'.output=c.w0.output
 size:c.w0.heap.size≤w'.heap.size
 block:∀ k,k<c.base→¬ c.lent k→w'.heap[k]?=c.w0.heap[k]?
theorem BelowL.grow {c:Cx} {w w':World} (h:BelowL c w) (hc:c.base≤w.heap.size) (hb:Below w.heap.size w w'):BelowL c w':=
 ⟨hb.os.trans h.os,hb.tape.trans h.tape,hb.output.trans h.output,W09 h.size hb.size,fun k hk hl=>(hb.block k (by omega)).trans (h.block k hk hl)⟩
theorem BelowL.refl {c:Cx}:BelowL c c.w0:=⟨rfl,rfl,rfl,W0m _,fun _ _ _=>rfl⟩
theorem BelowL.plain {c:Cx} {w:World} (h:BelowL c w) (hl:∀ k,¬ c.lent k):Below c.base c.w0 w:=⟨h.os,h.tape,h.output,h.size,fun k hk=>h.block k hk (hl k)⟩
structure RelD (c:Cx) (D:Nat→Prop) (s:FS) (a:Act) (w:World):Prop where
 defers:a.defers=[]
 size:a.tmps.size=c.n
 below:BelowL c w
 dlt:∀ b,D b→b<w.heap.size
 old:(∀ b,c.D0 b→D b)∧∀ b,D b→c.D0 b∨c.own b
 tm:∀ t v,a.tmps[t]?=some v→Ra D w (s.tm t) v
 bx:∀ id x,s.bx id=some x→(∀ g,x.blk=some g→c.own g∧¬ D g)∧BoxR D w x
 apart:∀ i j x y,s.bx i=some x→s.bx j=some y→i ≠ j→∀ g,x.blk=some g→y.blk ≠ some g
def Rel (c:Cx) (s:FS) (a:Act) (w:World):Prop:=c.base≤w.heap.size∧∃ D,RelD c D s a w
theorem RelD.ev {c:Cx} {D:Nat→Prop} {s:FS} {a:Act} {w:World} (h:RelD c D s a w) (y:Operand) (hy:∀ t,y=.tmp t→t<c.n):Ra D w (s.ev y) (a.eval y):=by
 cases y with
 | tmp t=>
  have ht:=hy t rfl;rw [← h.size] at ht;have:=h.tm t a.tmps[t] (W1p ht);simpa [FS.ev,Act.eval,ht] using this
 | const v=>exact .val v
 | global g=>exact .val _
 | func f=>exact .val _
theorem RelD.boxes {c:Cx} {D:Nat→Prop} {s:FS} {a:Act} {w:World} (h:RelD c D s a w):∀ id x,s.bx id=some x→BoxR D w x:=fun id x hx=>(h.bx id x hx).2
theorem Zgl {a:Act} {d:Option Tmp} {v:Value} {t:Nat} {u:Value} (h:(a.put d v).tmps[t]?=some u):(d=some t∧u=v)∨(d ≠ some t∧a.tmps[t]?=some u):=by
 cases d with
 | none=>exact .inr ⟨by simp,h⟩
 | some d=>
  by_cases hd:d=t
  ·subst hd;simp only [Act.put,Array.getElem?_setIfInBounds] at h
   split at h
   ·split at h
    ·exact .inl ⟨rfl,(W0c h).symm⟩
    ·cases h
   ·rename_i hne;exact absurd trivial hne
  ·simp only [Act.put,Array.getElem?_setIfInBounds_ne hd] at h;exact .inr ⟨by simpa using hd,h⟩
theorem RelD.put {c:Cx} {D:Nat→Prop} {s:FS} {a:Act} {w:World} (h:RelD c D s a w) (d:Option Tmp) {x:AV} {v:Value} (hv:Ra D w x v):RelD c D (s.put d x) (a.put d v) w:=by
 refine ⟨?_,?_,h.below,h.dlt,h.old,fun t u hu=>?_,?_,?_⟩
 ·cases d<;>exact h.defers
 ·cases d<;>simp [Act.put,h.size]
 ·rcases Zgl hu with ⟨rfl,rfl⟩ | ⟨hd,hu2⟩
  ·simpa [FS.put] using hv
  ·have:=h.tm t u hu2;cases d with
   | none=>exact this
   | some d=>
    have:t ≠ d:=fun e=>hd (by rw [e]);simpa [FS.put,this] using h.tm t u hu2
 ·cases d<;>exact h.bx
 ·cases d<;>exact h.apart
theorem RelD.grow {c:Cx} {D D':Nat→Prop} {s:FS} {a:Act} {w w':World} (h:RelD c D s a w) (hc:c.base≤w.heap.size) (hb:Below w.heap.size w w') (hD:∀ b,D b→D' b)
  (hD':∀ b,D' b→b<w'.heap.size∧(D b∨w.heap.size≤b)) (nb:Option (Nat × Bx))
  (hnb:∀ id y,nb=some (id,y)→s.bx id=none∧(∀ g,y.blk=some g→w.heap.size≤g∧¬ D' g)∧BoxR D' w' y):RelD c D' (s.addB nb) a w':=by
 have hold:∀ id x,s.bx id=some x→(∀ g,x.blk=some g→c.own g∧¬ D' g)∧BoxR D' w' x:=fun id x hx=>by
  obtain ⟨h1,h3⟩:=h.bx id x hx;refine ⟨fun g hg=>⟨(h1 g hg).1,fun hd=>?_⟩,h3.frame hD hb.size (fun b _ hl=>hb.block b hl) (fun g hg=>hb.block _ (h3.lt hg))⟩;have:=h3.lt hg;rcases (hD' _ hd).2 with h' | h'
  ·exact (h1 g hg).2 h'
  ·omega
 refine ⟨h.defers,h.size,h.below.grow hc hb,fun b hd=>(hD' b hd).1,⟨fun b hb=>hD b (h.old.1 b hb),fun b hb=>?_⟩,?_,?_,?_⟩
 ·rcases (hD' b hb).2 with h' | h'
  ·exact h.old.2 b h'
  ·exact .inr (.inl (W09 hc h'))
 ·intro t v hv;have:=(h.tm t v hv).frame (w':=w') hD hb.size (fun b _ hl=>hb.block b hl);rcases nb with _ | ⟨id,y⟩<;>exact this
 ·rcases nb with _ | ⟨id,y⟩
  ·exact hold
  ·intro i x hx;simp only [FS.addB,FS.setB] at hx
   split at hx
   ·obtain rfl:=W0c hx;obtain ⟨_,h1,h3⟩:=hnb id y rfl;exact ⟨fun g hg=>⟨.inl (W09 hc (h1 g hg).1),(h1 g hg).2⟩,h3⟩
   ·exact hold i x hx
 ·rcases nb with _ | ⟨id,y⟩
  ·exact h.apart
  ·obtain ⟨h0,h1,h3⟩:=hnb id y rfl;intro i j x x' hx hx' hij g hg hg';simp only [FS.addB,FS.setB] at hx hx'
   split at hx<;>split at hx'
   ·rename_i e1 e2;exact absurd (e1.trans e2.symm) hij
   ·obtain rfl:=W0c hx;have:=(h.bx j x' hx').2.lt hg';have:=(h1 g hg).1;omega
   ·obtain rfl:=W0c hx';have:=(h.bx i x hx).2.lt hg;have:=(h1 g hg').1;omega
   ·exact h.apart i j x x' hx hx' hij g hg hg'
theorem RelD.mutF {c:Cx} {D D':Nat→Prop} {s:FS} {a:Act} {w w':World} (h:RelD c D s a w) (hc:c.base≤w.heap.size) (id:Nat) (y y':Bx) (hy:s.bx id=some y) (h0:Below 0 w w')
  (hk:∀ k,y.blk ≠ some k→k<w.heap.size→w'.heap[k]?=w.heap[k]?) (hDD:∀ b,D b→D' b) (hD':∀ b,D' b→b<w'.heap.size∧(D b∨y.blk=some b∨w.heap.size≤b))
  (hb:∀ g,y'.blk=some g→(y.blk=some g∨w.heap.size≤g)∧¬ D' g) (hR:BoxR D' w' y'):RelD c D' (s.setB id (some y')) a w':=by
 have hyb:=(h.bx id y hy)
 have hkD:∀ b,D b→b<w.heap.size→w'.heap[b]?=w.heap[b]?:=fun b hd hl=>hk b (fun e=>(hyb.1 b e).2 hd) hl;refine ⟨h.defers,h.size,?_,fun b hd=>(hD' b hd).1,⟨fun b hb=>hDD b (h.old.1 b hb),fun b hb=>?_⟩,fun t v hv=>(h.tm t v hv).frame hDD h0.size hkD,?_,?_⟩
 ·refine ⟨h0.os.trans h.below.os,h0.tape.trans h.below.tape,h0.output.trans h.below.output,W09 h.below.size h0.size,fun k hlt hl=>?_⟩;rw [hk k (fun e=>by rcases (hyb.1 k e).1 with g | g;(· omega);exact hl g) (by omega)];exact h.below.block k hlt hl
 ·rcases (hD' b hb).2 with e | e | e
  ·exact h.old.2 b e
  ·exact .inr (hyb.1 b e).1
  ·exact .inr (.inl (W09 hc e))
 ·intro i x hx;simp only [FS.setB] at hx
  split at hx
  ·obtain rfl:=W0c hx;refine ⟨fun g hg=>⟨?_,(hb g hg).2⟩,hR⟩;rcases (hb g hg).1 with e | e
   ·exact (hyb.1 g e).1
   ·exact .inl (W09 hc e)
  ·rename_i hne;obtain ⟨h1,h3⟩:=h.bx i x hx;refine ⟨fun g hg=>⟨(h1 g hg).1,fun hd=>?_⟩,h3.frame hDD h0.size hkD (fun g hg=>hk _ (h.apart i id x y hx hy hne g hg) (h3.lt hg))⟩;rcases (hD' g hd).2 with e | e | e
   ·exact (h1 g hg).2 e
   ·exact h.apart i id x y hx hy hne g hg e
   ·have:=h3.lt hg;omega
 ·intro i j x x' hx hx' hij g hg hg';simp only [FS.setB] at hx hx'
  split at hx<;>split at hx'
  ·rename_i e1 e2;exact absurd (e1.trans e2.symm) hij
  ·rename_i e1 e2;obtain rfl:=W0c hx;have h3:=(h.bx j x' hx').2.lt hg';rcases (hb g hg).1 with e | e
   ·exact h.apart id j y x' hy hx' (fun e=>e2 e.symm) g e hg'
   ·omega
  ·rename_i e1 e2;obtain rfl:=W0c hx';have h3:=(h.bx i x hx).2.lt hg;rcases (hb g hg').1 with e | e
   ·exact h.apart i id x y hx hy e1 g hg e
   ·omega
  ·exact h.apart i j x x' hx hx' hij g hg hg'
end Copyhold
