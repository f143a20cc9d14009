import Derived.Test.YtkhodpknpligpaaGreatAl
import Derived.Test.YtkhodpknpligpaaGreatMrgA
import Derived.Tactics
import Derived.ScopeJumps
set_option linter.unusedVariables false
namespace Copyhold
open Go Go.RowKit
def isLd:Op→Bool
 | .load _ _ | .convert _ _ _=>true
 | _=>false
def isRd (P:Program):Op→Bool
 | .binOp _ t _ _ _=>
  match P.underlying t with
  | some (.slice _)=>false
  | _=>true
 | .move _ | .assign _ | .pick _ _ _ | .fieldAddr _ _ _ | .field _ _ _ | .extract _ _ | .unOp _ _ _ | .load _ _ | .indexAddr _ _ _ | .index _ _ _
 | .slice _ _ _ _ _ | .convert _ _ _ | .build _ _ | .makeFunc _ _ _ | .nilCheck _=>true
 | .call { callee:=.builtin .len,.. } | .call { callee:=.builtin .cap,.. } | .call { callee:=.builtin .max,.. } | .call { callee:=.builtin .min,.. }
 | .call { callee:=.builtin .real,.. } | .call { callee:=.builtin .imag,.. } | .call { callee:=.builtin .complex,.. }=>true
 | _=>false
def Qsf:Op→Bool
 | .store _ _ _ | .insert _ _ _ _ | .mapUpdate _ _ _ _=>true
 | .call { callee:=.builtin .append,.. } | .call { callee:=.builtin .copy,.. }=>true
 | _=>false
def gd (ops:Array Oper) (s:FS) (o:Oper):Option Bool:=
 match o.guard with
 | none=>some true
 | some (j,c)=>
  match (ops[j]?).bind (·.dst) with
  | some t=>
   match s.tm t with
   | .val (.bool b)=>some (b==c)
   | .val (.tuple _)=>some false
   | _=>none
  | none=>none
def opsR (D:Nat→Prop) (w:World) (s:FS) (ρ:Operand→Value) (o:Oper):Prop:=∀ y∈o.op.operands,Ra D w (s.ev y) (ρ y)
def Qkx (P:Program) (o:Oper) (s:FS) (x:AV):Prop:=
 ∀ (D:Nat→Prop) (w:World) (ρ:Operand→Value),opsR D w s ρ o→∃ v,(execOp ρ o).run P w=.ok (.value v) w∧Ra D w x v
def Qjr (P:Program) (o:Oper) (s:FS) (x:AV):Prop:=
 ∀ (D:Nat→Prop) (w:World) (ρ:Operand→Value),opsR D w s ρ o→(∀ id y,s.bx id=some y→BoxR D w y)→∃ v,(execOp ρ o).run P w=.ok (.value v) w∧Ra D w x v
def Qjs (P:Program) (o:Oper) (s:FS) (Out:AV→Option (Nat × Bx)→Prop):Prop:=
 ∀ (D:Nat→Prop) (w:World) (a:Act) (Q:Exit→Act→World→Prop) (K:Act→World→Prop),(∀ b,D b→b<w.heap.size)→opsR D w s a.eval o→(∀ id y,s.bx id=some y→BoxR D w y) →
  (∀ v w' x nb (D':Nat→Prop),Out x nb→Below w.heap.size w w'→(∀ b,D b→D' b)→(∀ b,D' b→b<w'.heap.size∧(D b∨w.heap.size≤b))→Ra D' w' x v →
   (∀ id y,nb=some (id,y)→(∀ g,y.blk=some g→w.heap.size≤g∧¬ D' g)∧BoxR D' w' y)→K (a.put o.dst v) w')→o.wp P a w K Q
def Qtn (P:Program) (o:Oper) (s:FS) (id:Nat) (Out:AV→Bx→Prop):Prop:=
 ∀ (D:Nat→Prop) (w:World) (a:Act) (Q:Exit→Act→World→Prop) (K:Act→World→Prop),(∀ b,D b→b<w.heap.size)→opsR D w s a.eval o→(∀ id y,s.bx id=some y→BoxR D w y) →
  (∀ y g,s.bx id=some y→y.blk=some g→¬ D g) →
  (∀ v w' x y y',Out x y'→s.bx id=some y→Below 0 w w'→(∀ k,y.blk ≠ some k→k<w.heap.size→w'.heap[k]?=w.heap[k]?)→(∀ g,y'.blk=some g→(y.blk=some g∨w.heap.size≤g)∧¬ D g) →
   BoxR D w' y'→Ra D w' x v→K (a.put o.dst v) w')→o.wp P a w K Q
def MutF (P:Program) (o:Oper) (s:FS) (id:Nat) (Out:AV→Bx→Prop):Prop:=
 ∀ (D:Nat→Prop) (w:World) (a:Act) (Q:Exit→Act→World→Prop) (K:Act→World→Prop),(∀ b,D b→b<w.heap.size)→opsR D w s a.eval o→(∀ id y,s.bx id=some y→BoxR D w y) →
  (∀ y g,s.bx id=some y→y.blk=some g→¬ D g) →
  (∀ v w' x y y' (D':Nat→Prop),Out x y'→s.bx id=some y→Below 0 w w'→(∀ k,y.blk ≠ some k→k<w.heap.size→w'.heap[k]?=w.heap[k]?)→(∀ b,D b→D' b)→(∀ b,D' b→b<w'.heap.size∧(D b∨y.blk=some b∨w.heap.size≤b)) →
   (∀ g,y'.blk=some g→(y.blk=some g∨w.heap.size≤g)∧¬ D' g)→BoxR D' w' y'→Ra D' w' x v→K (a.put o.dst v) w')→o.wp P a w K Q
theorem Qtn.up {P:Program} {o:Oper} {s:FS} {id:Nat} {Out:AV→Bx→Prop} (h:Qtn P o s id Out):MutF P o s id Out:=fun D w a Q K hD ho hb hn hc=>
 h D w a Q K hD ho hb hn (fun v w' x y y' hO hy h0 hk hb' hB hv=>hc v w' x y y' D hO hy h0 hk (fun _ h=>h) (fun b hd=>⟨W08 (hD b hd) h0.size,.inl hd⟩) hb' hB hv)
def Qf9 (P:Program) (ops:Array Oper) (i:Nat) (s:FS) (K:FS→Prop):Prop:=
 ∃ o,ops[i]?=some o ∧
  ((gd ops s o=some false∧K (s.put o.dst (.val undef))) ∨
   (gd ops s o=some true ∧
   ((∃ x,(Qkx P o s x∨(isLd o.op=true∧Qjr P o s x))∧K (s.put o.dst x)) ∨
    (isRd P o.op=false∧∃ Out,Qjs P o s Out∧∀ x nb,Out x nb→(∀ id y,nb=some (id,y)→s.bx id=none)∧K ((s.put o.dst x).addB nb)) ∨
    (isRd P o.op=false∧Qsf o.op=true∧∃ id Out,MutF P o s id Out∧∀ x y',Out x y'→K ((s.put o.dst x).setB id (some y'))))))
theorem Qf9.mono {P:Program} {ops:Array Oper} {i:Nat} {s:FS} {K K':FS→Prop} (h:Qf9 P ops i s K) (hk:∀ s,K s→K' s):Qf9 P ops i s K':=by
 obtain ⟨o,ho,h⟩:=h;refine ⟨o,ho,?_⟩;rcases h with ⟨h1,h2⟩ | ⟨h1,h | ⟨h2,Out,h3,h4⟩ | ⟨h2,h3,id,Out,h4,h5⟩⟩
 ·exact .inl ⟨h1,hk _ h2⟩
 ·obtain ⟨x,hx,h2⟩:=h;exact .inr ⟨h1,.inl ⟨x,hx,hk _ h2⟩⟩
 ·exact .inr ⟨h1,.inr (.inl ⟨h2,Out,h3,fun x nb hO=>⟨(h4 x nb hO).1,hk _ (h4 x nb hO).2⟩⟩)⟩
 ·exact .inr ⟨h1,.inr (.inr ⟨h2,h3,id,Out,h4,fun x y hO=>hk _ (h5 x y hO)⟩)⟩
def Qbv (n:Nat) (ops:Array Oper):Bool:=
 ops.all fun o=>(match o.dst with | some d=>decide (d<n) | none=>true)&&o.op.operands.all fun | .tmp t=>decide (t<n) | _=>true
theorem Ql3 {n:Nat} {ops:Array Oper} (h:Qbv n ops=true) {i:Nat} {o:Oper} (ho:ops[i]?=some o) {d:Nat} (hd:o.dst=some d):d<n:=by
 have:=Array.all_eq_true_iff_forall_mem.1 h o (W2a ho);simp [hd] at this;exact this.1
theorem Qoa {n:Nat} {ops:Array Oper} (h:Qbv n ops=true) {i:Nat} {o:Oper} (ho:ops[i]?=some o) {y:Operand} (hy:y∈o.op.operands):∀ t,y=.tmp t→t<n:=by
 intro t ht;have:=Array.all_eq_true_iff_forall_mem.1 h o (W2a ho);simp only [W0r] at this;have:=Array.all_eq_true_iff_forall_mem.1 this.2 y hy;subst ht;simpa using this
theorem Qgs {c:Cx} {D:Nat→Prop} {ops:Array Oper} {s:FS} {a:Act} {w:World} (hs:Qbv c.n ops=true) (h:RelD c D s a w) {o:Oper} {b:Bool} (hg:gd ops s o=some b):Region.wanted o (yielded ops a.tmps)=b:=by
 unfold gd at hg;unfold Region.wanted
 split at hg
 ·rename_i e;rw [e];exact W0c hg
 ·rename_i j d e;rw [e]
  split at hg
  ·rename_i t ht
   split at hg
   ·rename_i b' hb;obtain rfl:=W0c hg;cases hj:ops[j]? with
    | none=>rw [hj] at ht;cases ht
    | some oj=>
     rw [hj] at ht;have hlt:=Ql3 hs hj ht;rw [← h.size] at hlt;have hv:=h.tm t a.tmps[t] (W1p hlt);rw [hb] at hv;generalize hvv:a.tmps[t]=v at hv;cases hv;have:yielded ops a.tmps j=some b':=by
      unfold yielded;rw [hj];have h1:a.tmps[t]?=some (.bool b'):=by rw [W1p hlt,hvv]
      have h2:oj.dst=some t:=ht;simp [h1,h2]
     simp [this]
   ·rename_i vs hb;obtain rfl:=W0c hg;cases hj:ops[j]? with
    | none=>rw [hj] at ht;cases ht
    | some oj=>
     rw [hj] at ht;have hlt:=Ql3 hs hj ht;rw [← h.size] at hlt;have hv:=h.tm t a.tmps[t] (W1p hlt);rw [hb] at hv;generalize hvv:a.tmps[t]=v at hv;cases hv;have:yielded ops a.tmps j=none:=by
      unfold yielded;rw [hj];have h1:a.tmps[t]?=some (.tuple vs):=by rw [W1p hlt,hvv]
      have h2:oj.dst=some t:=ht;simp [h1,h2]
     simp [this]
   ·cases hg
  ·cases hg
theorem Qwl (s:FS) (d:Option Tmp) (x:AV) (nb:Option (Nat × Bx)):(s.addB nb).put d x=(s.put d x).addB nb:=by
 cases d<;>rcases nb with _ | ⟨id,y⟩<;>rfl
theorem Qle (s:FS) (d:Option Tmp) (x:AV) (id:Nat) (y:Option Bx):(s.setB id y).put d x=(s.put d x).setB id y:=by
 cases d<;>rfl
theorem Qlg (s:FS) (d e:Option Tmp) (x y:AV) (h:∀ t,d=some t→e ≠ some t):(s.put d x).put e y=(s.put e y).put d x:=by
 cases d with
 | none=>cases e<;>rfl
 | some d=>
  cases e with
  | none=>rfl
  | some e=>
   have hne:d ≠ e:=fun he=>h d rfl (by rw [he]);simp only [FS.put,FS.mk.injEq,and_true];funext t;by_cases h1:t=e
   ·have:t ≠ d:=fun h2=>hne (h2.symm.trans h1);subst h1;simp [this]
   ·simp [h1]
theorem Qf9.sound {c:Cx} {P:Program} {ops:Array Oper} {i:Nat} {s:FS} {K:FS→Prop} {a:Act} {w:World} {Q:Exit→Act→World→Prop} (hs:Qbv c.n ops=true) (h:Qf9 P ops i s K) (hr:Rel c s a w) :
  wpOp P ops Q i (fun a' w'=>∃ s',K s'∧Rel c s' a' w') a w:=by
 obtain ⟨o,ho,h⟩:=h;obtain ⟨hc,D,hR⟩:=hr;have hops:opsR D w s a.eval o:=fun y hy=>hR.ev y (Qoa hs ho hy);unfold wpOp;simp only [ho];rcases h with ⟨h1,h2⟩ | ⟨h1,h | ⟨h2,Out,h3,h4⟩ | ⟨h2,h3,id,Out,h4,h5⟩⟩
 ·rw [W1w (by rw [Qgs hs hR h1];simp)];exact ⟨_,h2,hc,D,hR.put _ (.val _)⟩
 ·obtain ⟨x,hx,h2⟩:=h;rw [W1x (Qgs hs hR h1)];left;have:∃ v,(execOp a.eval o).run P w=.ok (.value v) w∧Ra D w x v:=by
   rcases hx with hx | ⟨_,hx⟩
   ·exact hx D w _ hops
   ·exact hx D w _ hops hR.boxes
  obtain ⟨v,hv,hxv⟩:=this;unfold Oper.wp;rw [hv,Oper.upon_value];exact ⟨_,h2,hc,D,hR.put _ hxv⟩
 ·rw [W1x (Qgs hs hR h1)];left;refine h3 D w a Q _ hR.dlt hops hR.boxes (fun v w' x nb D' hO hb hD hD' hv hnb=>?_);obtain ⟨hf,hk⟩:=h4 x nb hO;refine ⟨_,hk,W09 hc hb.size,D',?_⟩;rw [← Qwl];exact (hR.grow hc hb hD hD' nb (fun id y hy=>⟨hf id y hy,hnb id y hy⟩)).put _ hv
 ·rw [W1x (Qgs hs hR h1)];left;refine h4 D w a Q _ hR.dlt hops hR.boxes (fun y g hy hg=>((hR.bx id y hy).1 g hg).2) (fun v w' x y y' D' hO hy h0 hk hDD hD' hb hB hv=>?_);refine ⟨_,h5 x y' hO,W09 hc h0.size,D',?_⟩;rw [← Qle];exact (hR.mutF hc id y y' hy h0 hk hDD hD' hb hB).put _ hv
def aAny (P:Program) (ops:Array Oper) (K:FS→Prop):Nat→Array Bool→FS→Prop
 | 0,l,s=>Region.ready .any ops l=[]∧K s
 | f+1,l,s=>(Region.ready .any ops l=[]→K s)∧∀ i∈Region.ready .any ops l,Qf9 P ops i s (aAny P ops K f (l.setIfInBounds i true))
theorem Qki {c:Cx} {P:Program} {ops:Array Oper} {K:FS→Prop} {Q:Exit→Act→World→Prop} (hs:Qbv c.n ops=true) (hQ:∀ s a w,K s→Rel c s a w→Q .normal a w) :
  ∀ (f:Nat) (l:Array Bool) (s:FS) (a:Act) (w:World),aAny P ops K f l s→Rel c s a w→wpAny P .any ops Q f l a w
 | 0,l,s,a,w,h,hr=>⟨h.1,hQ _ _ _ h.2 hr⟩
 | f+1,l,s,a,w,h,hr=>⟨fun he=>hQ _ _ _ (h.1 he) hr,fun i hi=>wpOp_mono (fun a' w' ⟨s',h',hr'⟩=>Qki hs hQ f _ s' a' w' h' hr') ((h.2 i hi).sound hs hr)⟩
def Yld (P:Program) (ops:Array Oper) (o:Oper) (s:FS) (x:AV):Prop:=
 (gd ops s o=some false∧x=.val undef)∨(gd ops s o=some true∧(Qkx P o s x∨(isLd o.op=true∧Qjr P o s x)))
theorem Zkn {ops:Array Oper} {o:Oper} {s:FS} {d:Option Tmp} {x:AV} (h:∀ t,d=some t→t ∉ o.looksAt ops) {y:Operand} (hy:y∈o.op.operands):(s.put d x).ev y=s.ev y:=by
 cases d with
 | none=>rfl
 | some d=>
  cases y with
  | tmp t=>
   have hne:t ≠ d:=fun e=>h d rfl (by
    subst e;exact List.mem_append_left _ (W2i.2 ⟨.tmp t,by simpa using hy,rfl⟩))
   simp [FS.ev,FS.put,hne]
  | _=>rfl
theorem Zkg {ops:Array Oper} {o:Oper} {s:FS} {d:Option Tmp} {x:AV} (h:∀ t,d=some t→t ∉ o.looksAt ops):gd ops (s.put d x) o=gd ops s o:=by
 cases d with
 | none=>rfl
 | some d=>
  unfold gd;cases hg:o.guard with
  | none=>rfl
  | some gw=>
   obtain ⟨g,want⟩:=gw;simp only;cases ht:(ops[g]?).bind (·.dst) with
   | none=>rfl
   | some t=>
    have hne:t ≠ d:=fun e=>h d rfl (by subst e;simp [Oper.looksAt,hg,ht]);simp [FS.put,hne]
theorem Qi1 {ops:Array Oper} {D:Nat→Prop} {w:World} {o:Oper} {s:FS} {d:Option Tmp} {x:AV} {ρ:Operand→Value} (h:∀ t,d=some t→t ∉ o.looksAt ops):opsR D w (s.put d x) ρ o↔opsR D w s ρ o:=by
 unfold opsR;constructor
 ·intro hh y hy;have:=hh y hy
  rwa [Zkn h hy] at this
 ·intro hh y hy;rw [Zkn h hy];exact hh y hy
theorem Qs7 (s:FS) (d:Option Tmp) (x:AV):(s.put d x).bx=s.bx:=by cases d<;>rfl
theorem gd_tm {ops:Array Oper} {o:Oper} {s s':FS} (h:s'.tm=s.tm):gd ops s' o=gd ops s o:=by unfold gd;rw [h]
theorem Zcc {D:Nat→Prop} {w:World} {o:Oper} {s s':FS} {ρ:Operand→Value} (h:s'.tm=s.tm):opsR D w s' ρ o↔opsR D w s ρ o:=by
 have:∀ y,s'.ev y=s.ev y:=fun y=>by cases y<;>simp [FS.ev,h]
 unfold opsR;simp only [this]
theorem Qkx.put {P:Program} {ops:Array Oper} {o:Oper} {s:FS} {d:Option Tmp} {x u:AV} (h:∀ t,d=some t→t ∉ o.looksAt ops):Qkx P o (s.put d u) x↔Qkx P o s x:=
 ⟨fun hh D w ρ ho=>hh D w ρ ((Qi1 h).2 ho),fun hh D w ρ ho=>hh D w ρ ((Qi1 h).1 ho)⟩
theorem Qjr.put {P:Program} {ops:Array Oper} {o:Oper} {s:FS} {d:Option Tmp} {x u:AV} (h:∀ t,d=some t→t ∉ o.looksAt ops):Qjr P o (s.put d u) x↔Qjr P o s x:=by
 unfold Qjr;simp only [Qi1 h,Qs7]
theorem Qjs.put {P:Program} {ops:Array Oper} {o:Oper} {s:FS} {d:Option Tmp} {u:AV} {Out:AV→Option (Nat × Bx)→Prop} (h:∀ t,d=some t→t ∉ o.looksAt ops):Qjs P o (s.put d u) Out↔Qjs P o s Out:=by
 unfold Qjs;simp only [Qi1 h,Qs7]
theorem MutF.put {P:Program} {ops:Array Oper} {o:Oper} {s:FS} {d:Option Tmp} {u:AV} {id:Nat} {Out:AV→Bx→Prop} (h:∀ t,d=some t→t ∉ o.looksAt ops):MutF P o (s.put d u) id Out↔MutF P o s id Out:=by
 unfold MutF;simp only [Qi1 h,Qs7]
theorem Yld.put {P:Program} {ops:Array Oper} {o:Oper} {s:FS} {d:Option Tmp} {x u:AV} (h:∀ t,d=some t→t ∉ o.looksAt ops) (hy:Yld P ops o s x):Yld P ops o (s.put d u) x:=by
 unfold Yld;rw [Zkg h,Qkx.put h,Qjr.put h];exact hy
theorem Yld.more {P:Program} {ops:Array Oper} {o:Oper} {s s':FS} {x:AV} (ht:s'.tm=s.tm) (hb:isLd o.op=true→∀ id y,s.bx id=some y→s'.bx id=some y) (hy:Yld P ops o s x):Yld P ops o s' x:=by
 unfold Yld at hy ⊢;rw [gd_tm ht];rcases hy with h | ⟨h1,h | ⟨h2,h⟩⟩
 ·exact .inl h
 ·exact .inr ⟨h1,.inl fun D w ρ ho=>h D w ρ ((Zcc ht).1 ho)⟩
 ·exact .inr ⟨h1,.inr ⟨h2,fun D w ρ ho hbx=>h D w ρ ((Zcc ht).1 ho) (fun id y hy=>hbx id y (hb h2 id y hy))⟩⟩
theorem Zgs {P:Program} {ops:Array Oper} {j:Nat} {oi oj:Oper} {x:AV} {s:FS} {K:FS→Prop} (hj:ops[j]?=some oj) (hap:oi.apart ops oj=true) (hm:isLd oi.op=true→Qsf oj.op=false)
  (hy:Yld P ops oi s x) (h:Qf9 P ops j (s.put oi.dst x) K):Qf9 P ops j s (fun s'=>Yld P ops oi s' x∧K (s'.put oi.dst x)):=by
 obtain ⟨h1,h2,h3⟩:=Oper.apart_spec hap;obtain ⟨o,ho,h⟩:=h;obtain rfl:oj=o:=W0c (hj.symm.trans ho);refine ⟨oj,hj,?_⟩;rw [Zkg h1] at h;rcases h with ⟨g,hk⟩ | ⟨g,h | ⟨g2,Out,g3,g4⟩ | ⟨g2,g3,id,Out,g4,g5⟩⟩
 ·refine .inl ⟨g,hy.put h3,?_⟩;rw [Qlg _ _ _ _ _ h2] at hk;exact hk
 ·obtain ⟨xj,hx,hk⟩:=h;rw [Qkx.put h1,Qjr.put h1] at hx;refine .inr ⟨g,.inl ⟨xj,hx,hy.put h3,?_⟩⟩;rw [Qlg _ _ _ _ _ h2] at hk;exact hk
 ·rw [Qjs.put h1] at g3;refine .inr ⟨g,.inr (.inl ⟨g2,Out,g3,fun y nb hO=>?_⟩)⟩;obtain ⟨hf,hk⟩:=g4 y nb hO;rw [Qs7] at hf;refine ⟨hf,?_,?_⟩
  ·refine Yld.more (s:=s.put oj.dst y) ?_ ?_ (hy.put h3)
   ·rcases nb with _ | ⟨id,z⟩<;>rfl
   ·intro _ id z hz;rcases nb with _ | ⟨id',z'⟩
    ·exact hz
    ·have:=hf id' z' rfl;simp only [FS.addB,FS.setB]
     split
     ·rename_i e;rw [Qs7,e,this] at hz;cases hz
     ·exact hz
  ·rw [Qwl,← Qlg _ _ _ _ _ h2];exact hk
 ·rw [MutF.put h1] at g4;refine .inr ⟨g,.inr (.inr ⟨g2,g3,id,Out,g4,fun y z hO=>⟨?_,?_⟩⟩)⟩
  ·refine Yld.more (s:=s.put oj.dst y) rfl ?_ (hy.put h3);intro hl;rw [hm hl] at g3;cases g3
  ·rw [Qle,← Qlg _ _ _ _ _ h2];exact g5 y z hO
def blkA (ops:Array Oper) (l:Array Bool) (i:Nat):Nat→Nat→Bool
 | 0,_=>false
 | n+1,j=>
  match ops[j]? with
  | some oj=>oj.after.any fun e=>Region.binds .any e&&(e.on==i||(!l.getD e.on true&&blkA ops l i n e.on))
  | none=>false
theorem Zis {l:Array Bool} {k:Nat} (h:l.getD k false=true):l.getD k true=true:=by
 rcases Nat.lt_or_ge k l.size with h' | h'
 ·simp [h'] at h ⊢;exact h
 ·simp [Array.getElem?_eq_none h'] at h
theorem Qo9 {ops:Array Oper} {l:Array Bool} {i j:Nat} (hi:l.getD i true=false) (hj:j∈Region.ready .any ops l):∀ n,blkA ops l i n j=false
 | 0=>rfl
 | n+1=>by
  obtain ⟨_,o,ho,hall⟩:=mem_ready.1 hj;unfold blkA;rw [ho];refine Bool.eq_false_iff.2 fun h=>?_;obtain ⟨e,he,hb⟩:=Array.any_eq_true'.1 h;simp only [W0r,W15,beq_iff_eq,Bool.not_eq_true'] at hb;have hd:=Zis (hall e he hb.1);rcases hb.2 with h2 | h2
  ·rw [h2,hi] at hd;cases hd
  ·rw [h2.1] at hd;cases hd
theorem Qta {ops:Array Oper} {l:Array Bool} {i k:Nat} (hi:l.getD i true=false) (hk:k∈Region.ready .any ops l):∀ n j,blkA ops l i n j=true→blkA ops (l.setIfInBounds k true) i n j=true
 | 0,_,h=>by cases h
 | n+1,j,h=>by
  unfold blkA at h ⊢
  split at h
  ·rename_i o ho;obtain ⟨e,he,hb⟩:=Array.any_eq_true'.1 h;refine Array.any_eq_true'.2 ⟨e,he,?_⟩;simp only [W0r,W15,beq_iff_eq,Bool.not_eq_true'] at hb ⊢;refine ⟨hb.1,hb.2.imp (fun h=>h) fun h2=>⟨?_,Qta hi hk n e.on h2.2⟩⟩;have hne:k ≠ e.on:=fun hh=>by
    have:=Qo9 hi hk n;rw [hh,h2.2] at this;cases this
   rw [getD_set_ne true hne];exact h2.1
  ·cases h
theorem Qpd {P:Program} {ops:Array Oper} {K:FS→Prop} {i:Nat} {oi:Oper} {x:AV} (hi:ops[i]?=some oi) :
  ∀ (fuel:Nat) (l:Array Bool) (s:FS),
   (∀ j oj,ops[j]?=some oj→j ≠ i→l.getD j true=false→(∀ n,blkA ops l i n j=false)→oi.apart ops oj=true∧(isLd oi.op=true→Qsf oj.op=false)) →
   i∈Region.ready .any ops l→Yld P ops oi s x→aAny P ops K fuel (l.setIfInBounds i true) (s.put oi.dst x)→aAny P ops K (fuel+1) l s:=by
 have own:∀ (s:FS) (K':FS→Prop),Yld P ops oi s x→K' (s.put oi.dst x)→Qf9 P ops i s K':=fun s K' hy hk=>by
  refine ⟨oi,hi,?_⟩;rcases hy with ⟨h,rfl⟩ | ⟨h1,h2⟩
  ·exact .inl ⟨h,hk⟩
  ·exact .inr ⟨h1,.inl ⟨x,h2,hk⟩⟩
 intro fuel
 induction fuel with
 | zero=>
  intro l s _ hr hy H;refine ⟨fun h=>(by rw [h] at hr;cases hr),fun j hj=>?_⟩;by_cases hji:j=i
  ·subst hji;exact own s _ hy H
  ·have:=ready_mono hj hji;rw [H.1] at this;cases this
 | succ fuel ih=>
  intro l s hfree hr hy H;refine ⟨fun h=>(by rw [h] at hr;cases hr),fun j hj=>?_⟩;by_cases hji:j=i
  ·subst hji;exact own s _ hy H
  ·have h1:=H.2 j (ready_mono hj hji);obtain ⟨hjun,oj,hoj,hall⟩:=mem_ready.1 hj;have hipe:=(mem_ready.1 hr).1;have hnot:∀ n,blkA ops l i n j=false:=Qo9 hipe hj;obtain ⟨hap,hm⟩:=hfree j oj hoj hji hjun hnot;have hfree':∀ k ok,ops[k]?=some ok→k ≠ i→(l.setIfInBounds j true).getD k true=false →
     (∀ n,blkA ops (l.setIfInBounds j true) i n k=false)→oi.apart ops ok=true∧(isLd oi.op=true→Qsf ok.op=false):=fun k ok hk hki hun hno=>by
    refine hfree k ok hk hki ?_ (fun n=>Bool.eq_false_iff.2 fun h=>by have:=Qta hipe hj n k h;rw [hno n] at this;cases this);by_cases hjk:j=k
    ·subst hjk;exact hjun
    ·rw [getD_set_ne true hjk] at hun;exact hun
   refine (Zgs hoj hap hm hy h1).mono (fun s' h3=>ih (l.setIfInBounds j true) s' hfree' (ready_mono hr (Ne.symm hji)) h3.1 ?_);rw [Array.setIfInBounds_comm _ _ hji];exact h3.2
def SeqR (P:Program) (ops:Array Oper) (K:FS→Prop):List Nat→FS→Prop
 | [],s=>K s
 | i :: r,s=>Qf9 P ops i s (SeqR P ops K r)
def Zd4 (P:Program) (ops:Array Oper) (l:Array Bool) (i:Nat):Bool:=
 match ops[i]? with
 | none=>false
 | some oi=>isRd P oi.op&&(List.range ops.size).all fun j=>j==i||l.getD j true||match ops[j]? with
   | some oj=>blkA ops l i ops.size j||(oi.apart ops oj&&(!isLd oi.op||!Qsf oj.op))
   | none=>true
def Qui (P:Program) (ops:Array Oper):List Nat→Array Bool→Bool
 | [],l=>(Region.ready .any ops l).isEmpty
 | i :: r,l=>((Zd4 P ops l i&&(Region.ready .any ops l).contains i)||Region.ready .any ops l==[i])&&Qui P ops r (l.setIfInBounds i true)
theorem Qi4 {P:Program} {ops:Array Oper} {K:FS→Prop}:∀ (r:List Nat) (l:Array Bool) (s:FS),Qui P ops r l=true→SeqR P ops K r s→aAny P ops K r.length l s
 | [],l,s,h,hs=>⟨by simpa [Qui] using h,hs⟩
 | i :: r,l,s,h,hs=>by
  simp only [Qui,W0r,W15] at h;obtain ⟨h1,h2⟩:=h;rcases h1 with ⟨hf,hr⟩ | hr
  ·unfold Zd4 at hf
   split at hf
   ·cases hf
   ·rename_i oi hi;simp only [W0r,W1z,List.mem_range] at hf;obtain ⟨hrd,hf⟩:=hf;obtain ⟨o,ho,hst⟩:=hs;obtain rfl:oi=o:=W0c (hi.symm.trans ho);have hfree:∀ j oj,ops[j]?=some oj→j ≠ i→l.getD j true=false→(∀ n,blkA ops l i n j=false)→oi.apart ops oj=true∧(isLd oi.op=true→Qsf oj.op=false):=by
     intro j oj hj hne hun hno;have h3:=hf j (W06.1 hj).1;simp only [hj,W15,beq_iff_eq,hne,false_or,hun,Bool.false_eq_true,W0r,Bool.not_eq_true'] at h3;rcases h3 with h3 | ⟨h3,h4⟩
     ·rw [hno ops.size] at h3;cases h3
     ·refine ⟨h3,fun hl=>?_⟩;rcases h4 with h4 | h4
      ·rw [hl] at h4;cases h4
      ·exact h4
    have key:∃ x,Yld P ops oi s x∧SeqR P ops K r (s.put oi.dst x):=by
     rcases hst with ⟨g,hk⟩ | ⟨g,⟨x,hx,hk⟩ | ⟨g2,_⟩ | ⟨g2,_⟩⟩
     ·exact ⟨.val undef,.inl ⟨g,rfl⟩,hk⟩
     ·exact ⟨x,.inr ⟨g,hx⟩,hk⟩
     ·rw [hrd] at g2;cases g2
     ·rw [hrd] at g2;cases g2
    obtain ⟨x,hy,hk⟩:=key;exact Qpd hi r.length l s hfree (by simpa using hr) hy (Qi4 r _ _ h2 hk)
  ·have hr':Region.ready .any ops l=[i]:=by simpa using hr
   refine ⟨fun h=>(by rw [h] at hr';cases hr'),fun j hj=>?_⟩;rw [hr'] at hj;obtain rfl:j=i:=by simpa using hj
   exact hs.mono fun s' h'=>Qi4 r _ s' h2 h'
end Copyhold

namespace Copyhold
open Go Go.RowKit
def AWp (c:Cx) (P:Program) (code:Code) (Q:Exit→FS→Prop) (s:FS):Prop:=
 ∀ a w,Rel c s a w→code.wp P (fun e a' w'=>∃ s',Q e s'∧Rel c s' a' w') a w
section
variable {c:Cx} {P:Program} {Q Q':Exit→FS→Prop} {s s':FS}
theorem AWp.mono {code:Code} (h:AWp c P code Q s) (hq:∀ e s,Q e s→Q' e s):AWp c P code Q' s:=
 fun a w hr=>wp_mono (h a w hr) fun e a' w' ⟨s',q,r⟩=>⟨s',hq _ _ q,r⟩
def Sub (x y:AV):Prop:=∀ (D:Nat→Prop) (w:World) (v:Value),Ra D w x v→Ra D w y v
theorem Sub.refl (x:AV):Sub x x:=fun _ _ _ h=>h
theorem Sub.trans {x y z:AV} (h:Sub x y) (k:Sub y z):Sub x z:=fun _ _ _ hx=>k _ _ _ (h _ _ _ hx)
theorem Sub.any (x:AV):Sub x .any:=fun _ _ v _=>.any v
theorem Sub.nil (k:Nat) (t:Bool):Sub (.val (.slice none 0 0)) (.sl k t []):=fun D w v h=>by
 cases h;exact .sl k t [] none 0 0 0 (fun _ _=>undef) (W0m _) (fun _=>rfl) (fun h=>absurd h (by simp)) (fun i e h=>by simp at h) (fun i e j x h=>by simp at h) (fun i e j x h=>by simp at h)
theorem Sub.loose (k:Nat) (t:Bool) (xs:List (List AV)):Sub (.sl k t xs) (.sl k false xs):=fun D w v h=>by
 cases h with
 | sl k t xs A c b off vs h1 h2 h3 h4 h5 h6=>exact .sl k false xs A c b off vs h1 (fun h=>by cases h) h3 h4 h5 h6
theorem Sub.agg {cs ds:List AV} (hl:cs.length=ds.length) (h:∀ (j:Nat) (x y:AV),cs[j]?=some x→ds[j]?=some y→Sub x y):Sub (.agg cs) (.agg ds):=fun D w v hv=>by
 cases hv with
 | agg cs vs h1 h2 h3=>
  refine .agg ds vs (by omega) h2 (fun j y v hy hv=>?_);have hj:j<cs.length:=by have:=(W0i.1 hy).1;omega
  exact h j cs[j] y (W0d hj) hy D w v (h3 j cs[j] v (W0d hj) hv)
inductive SubB:Bx→Bx→Prop
 | refl (y:Bx):SubB y y
 | box (b:Nat) (T:TypeId) (cs ds:List AV):cs.length=ds.length→(∀ (j:Nat) (x y:AV),cs[j]?=some x→ds[j]?=some y→Sub x y)→SubB (.box b T cs) (.box b T ds)
theorem SubB.blk {y y':Bx} (h:SubB y y'):y'.blk=y.blk:=by cases h<;>rfl
theorem SubB.rep {y y':Bx} (h:SubB y y') {D:Nat→Prop} {w:World} (hy:BoxR D w y):BoxR D w y':=by
 cases h with
 | refl=>exact hy
 | box b T cs ds hl hsub=>
  obtain ⟨vs,h3,h4,h5,h6⟩:=hy;refine ⟨vs,h3,by omega,h5,fun j a v ha hv=>?_⟩;have hj:j<cs.length:=by have:=(W0i.1 ha).1;omega
  exact hsub j cs[j] a (W0d hj) ha D w v (h6 j cs[j] v (W0d hj) hv)
def FS.le' (s s':FS):Prop:=(∀ t,Sub (s.tm t) (s'.tm t))∧∀ id y',s'.bx id=some y'→∃ y,s.bx id=some y∧SubB y y'
theorem RelD.weaken' {D:Nat→Prop} {a:Act} {w:World} (h:RelD c D s a w) (hl:s.le' s'):RelD c D s' a w:=by
 refine ⟨h.defers,h.size,h.below,h.dlt,h.old,fun t v hv=>hl.1 t D w v (h.tm t v hv),fun id y' hy'=>?_,fun i j x y hx hy hij=>?_⟩
 ·obtain ⟨y,hy,e⟩:=hl.2 id y' hy';obtain ⟨h1,h2⟩:=h.bx id y hy;exact ⟨fun g hg=>h1 g (e.blk ▸ hg),e.rep h2⟩
 ·obtain ⟨x',hx',e1⟩:=hl.2 i x hx;obtain ⟨y',hy',e2⟩:=hl.2 j y hy;rw [e1.blk,e2.blk];exact h.apart i j x' y' hx' hy' hij
theorem AWp.weaken {code:Code} (hl:s.le' s') (h:AWp c P code Q s'):AWp c P code Q s:=fun a w ⟨hc,D,hr⟩=>h a w ⟨hc,D,hr.weaken' hl⟩
theorem Zjm (h:Q .normal s):AWp c P .skip Q s:=fun a w hr=>wp_skip ⟨s,h,hr⟩
theorem Zfq {l:Nat} (h:Q .normal s):AWp c P (.label l) Q s:=fun a w hr=>wp_label ⟨s,h,hr⟩
theorem Zjp {id:Nat} (h:Q (.exit id) s):AWp c P (.exit id) Q s:=fun a w hr=>wp_exit ⟨s,h,hr⟩
theorem Zjo {l:Nat} (h:Q (.goto l) s):AWp c P (.goto l) Q s:=fun a w hr=>wp_goto ⟨s,h,hr⟩
theorem Znh (h:Q .ret s):AWp c P .ret Q s:=fun a w hr=>wp_ret ⟨s,h,hr⟩
def Qyi (K:FS→Prop) (Q:Exit→FS→Prop):Exit→FS→Prop
 | .normal,s=>K s
 | e,s=>Q e s
theorem Qvr {x y:Code} (h:AWp c P x (Qyi (AWp c P y Q) Q) s):AWp c P (.seq x y) Q s:=fun a w hr=>
 wp_seq (wp_mono (h a w hr) fun e a' w' ⟨s',q,r⟩=>by
  cases e with
  | normal=>exact q a' w' r
  | _=>exact ⟨s',q,r⟩)
theorem Zjq {o:Operand} {x y:Code} {b:Bool} (hn:∀ t,o=.tmp t→t<c.n) (ho:s.ev o=.val (.bool b)) (h:AWp c P (if b then x else y) Q s):AWp c P (.cond o x y) Q s:=fun a w hr=>by
 obtain ⟨hc,D,hR⟩:=hr;have hv:=hR.ev o hn;rw [ho] at hv;generalize hvv:a.eval o=v at hv;cases hv;exact wp_cond hvv (h a w ⟨hc,D,hR⟩)
def Qs9 (id:Nat) (Q:Exit→FS→Prop):Exit→FS→Prop
 | .exit i,s=>bif Nat.beq i id then Q .normal s else Q (.exit i) s
 | e,s=>Q e s
theorem Qte {id:Nat} {x:Code} (h:AWp c P x (Qs9 id Q) s):AWp c P (.block id x) Q s:=fun a w hr=>
 wp_block (wp_mono (h a w hr) fun e a' w' ⟨s',q,r⟩=>by
  cases e with
  | exit i=>
   simp only [Exit.inBlock,Qs9] at q ⊢;cases hb:Nat.beq i id with
   | true=>
    rw [hb] at q;rw [W1x (W0q hb)];exact ⟨s',q,r⟩
   | false=>
    rw [hb] at q;rw [W1w (fun e=>by rw [e,Nat.beq_refl] at hb;cases hb)];exact ⟨s',q,r⟩
  | _=>exact ⟨s',q,r⟩)
theorem least_of {J:Nat→Prop} (h:∃ n,J n):∃ n,J n∧∀ m,J m→n≤m:=by
 obtain ⟨n,hn⟩:=h
 induction n using Nat.strongRecOn with
 | _ n ih=>
  by_cases hm:∃ m,m<n∧J m
  ·obtain ⟨m,h1,h2⟩:=hm;exact ih m h1 h2
  ·exact ⟨n,hn,fun m hJ=>Nat.le_of_not_lt fun hlt=>hm ⟨m,hlt,hJ⟩⟩
open Classical in
theorem Zjn {x:Code} (I:Nat→FS→Prop) {n0:Nat} (h0:I n0 s) (round:∀ n s,I n s→AWp c P x (Qyi (fun s'=>∃ m,m<n∧I m s') Q) s):AWp c P (.loop x) Q s:=fun a w hr=>by
 let J:Act→World→Nat→Prop:=fun a w n=>∃ s,I n s∧Rel c s a w
 let μ:Act→World→Nat:=fun a w=>if h:∃ n,J a w n then choose (least_of h) else 0
 refine wp_loop (fun a w=>∃ n,J a w n) μ ⟨n0,s,h0,hr⟩ fun a w hJ=>?_;have hμ:μ a w=choose (least_of hJ):=dif_pos hJ;obtain ⟨s1,hI,hr1⟩:=(choose_spec (least_of hJ)).1;refine wp_mono (round _ _ hI a w hr1) fun e a' w' ⟨s',q,r⟩=>?_;cases e with
 | normal=>
  obtain ⟨m,hm,hIm⟩:=q;have hJ':∃ n,J a' w' n:=⟨m,s',hIm,r⟩
  refine ⟨hJ',?_⟩;rw [hμ];have:μ a' w'=choose (least_of hJ'):=dif_pos hJ';rw [this];exact W03 ((choose_spec (least_of hJ')).2 m ⟨s',hIm,r⟩) hm
 | _=>exact ⟨s',q,r⟩
theorem Rel.drawn {a:Act} {w:World} (h:Rel c s a w):Rel c s a { w with drawn:=w.drawn+1 }:=by
 obtain ⟨hc,D,h⟩:=h;have hk:∀ b,D b→b<w.heap.size→({ w with drawn:=w.drawn+1 }:World).heap[b]?=w.heap[b]?:=fun _ _ _=>rfl;refine ⟨hc,D,h.defers,h.size,⟨h.below.os,h.below.tape,h.below.output,h.below.size,h.below.block⟩,h.dlt,h.old,fun t v hv=>(h.tm t v hv).frame (fun _ h=>h) (W0m _) hk,fun id x hx=>?_,h.apart⟩;obtain ⟨h1,h3⟩:=h.bx id x hx;exact ⟨h1,h3.frame (fun _ h=>h) (W0m _) hk (fun _ _=>rfl)⟩
theorem Qnq {id:Nat} {ops:Array Oper} (ord:List Nat) (hm:P.follows .mixedOrders=true) (hs:Qbv c.n ops=true) (ho:(Qui P ops ord (Array.replicate ops.size false)&&ord.length==ops.size)=true)
  (h:SeqR P ops (Q .normal) ord s):AWp c P (.region id ops true) Q s:=fun a w hr=>by
 simp only [W0r,beq_iff_eq] at ho;refine wp_region_any hm ?_;have h1:=Qi4 ord _ s ho.1 h;rw [ho.2] at h1;exact Qki (K:=Q .normal) hs (fun s a w hk hr=>⟨s,hk,hr⟩) _ _ s a _ h1 hr.drawn
theorem Qpj {ops:Array Oper} (hs:Qbv c.n ops=true):∀ (l:List Nat) (s:FS) (a:Act) (w:World),SeqR P ops (Q .normal) l s→Rel c s a w→wpOps P ops (fun e a' w'=>∃ s',Q e s'∧Rel c s' a' w') l a w
 | [],s,a,w,h,hr=>⟨s,h,hr⟩
 | i :: r,s,a,w,h,hr=>by
  rw [wpOps_cons];exact wpOp_mono (fun a' w' ⟨s',h',hr'⟩=>Qpj hs r s' a' w' h' hr') (Qf9.sound hs h hr)
theorem Zae {id:Nat} {ops:Array Oper} (ord:List Nat) (hs:Qbv c.n ops=true) (ho:(List.range ops.size==ord)=true) (h:SeqR P ops (Q .normal) ord s):AWp c P (.region id ops false) Q s:=fun a w hr=>by
 refine wp_region ?_;rw [beq_iff_eq.1 ho];exact Qpj hs ord s a w h hr
end
def Qc8 (D:Nat→Prop) (w:World) (xs:List AV) (vs:Array Value):Prop:=xs.length=vs.size∧∀ (j:Nat) (x:AV) (v:Value),xs[j]?=some x→vs[j]?=some v→Ra D w x v
def Qag (P:Program) (f:FuncId) (args:List AV) (r:AV):Prop:=
 ∀ (D:Nat→Prop) (w:World) (vs:Array Value),(∀ b,D b→b<w.heap.size)→Qc8 D w args vs →
  Calls P f vs w (fun e w'=>∃ v,∃ D':Nat→Prop,e=.returned v∧Below w.heap.size w w'∧(∀ b,D b→D' b)∧(∀ b,D' b→b<w'.heap.size∧(D b∨w.heap.size≤b))∧Ra D' w' r v)
theorem Qag.sub {P:Program} {f:FuncId} {args args':List AV} {r r':AV} (h:Qag P f args r) (hl:args'.length=args.length) (ha:∀ (j:Nat) (x y:AV),args'[j]?=some x→args[j]?=some y→Sub x y) (hr:Sub r r'):Qag P f args' r':=by
 intro D w vs hD hv;refine (h D w vs hD ⟨by have:=hv.1;omega,fun j y v hy hvj=>?_⟩).mono ?_
 ·have hj:j<args'.length:=by have:=(W0i.1 hy).1;omega
  exact ha j args'[j] y (W0d hj) hy D w v (hv.2 j args'[j] v (W0d hj) hvj)
 ·rintro e w' ⟨v,D',rfl,h1,h2,h3,h4⟩;exact ⟨v,D',rfl,h1,h2,h3,hr _ _ _ h4⟩
def allP:List Prop→Prop
 | []=>True
 | p :: r=>p∧allP r
theorem Qcz {a b:List Prop} (h:allP (a++b)):allP a∧allP b:=by
 induction a with
 | nil=>exact ⟨trivial,h⟩
 | cons p r ih=>exact ⟨⟨h.1,(ih h.2).1⟩,(ih h.2).2⟩
def Qld (P:Program) (s:FS):ResultVar→Option (List Prop × AV)
 | .tmp t=>some ([],s.tm t)
 | .cell t ty=>
  match s.tm t,P.underlying ty,P.info? ty with
  | .ptr id b 0,some (.struct _),some i=>
   match s.bx id with
   | some (.box b' _ cs)=>bif Nat.beq cs.length i.size then some ([b'=b],.agg cs) else none
   | _=>none
  | .ptr id b 0,some (.array _ _),some i=>
   match s.bx id with
   | some (.box b' _ cs)=>bif Nat.beq cs.length i.size then some ([b'=b],.agg cs) else none
   | _=>none
  | .ptr id b 0,some _,some _=>
   match s.bx id with
   | some (.box b' _ cs)=>
    match cs with
    | x :: _=>some ([b'=b],x)
    | []=>none
   | _=>none
  | _,_,_=>none
def Qog (tmps:Array Value):ResultVar→Sem Value
 | .tmp t=>pure (tmps.getD t undef)
 | .cell t ty=>do loadVar ty (← asAddr (tmps.getD t undef))
theorem Qyu {c:Cx} {D:Nat→Prop} {P:Program} {s:FS} {a:Act} {w:World} (h:RelD c D s a w) (rv:ResultVar) (x:AV) (hn:(match rv with | .tmp t=>t | .cell t _=>t)<c.n) {ps:List Prop} (hx:Qld P s rv=some (ps,x)) (hp:allP ps) :
  ∃ v,(Qog a.tmps rv).run P w=.ok v w∧Ra D w x v:=by
 cases rv with
 | tmp t=>
  simp only [Qld,W0k,W0s] at hx;obtain ⟨rfl,rfl⟩:=hx;exact ⟨_,rfl,h.ev (.tmp t) (fun t' e=>by cases e;exact hn)⟩
 | cell t ty=>
  have hv:=h.ev (.tmp t) (fun t' e=>by cases e;exact hn);simp only [Qld] at hx;have key:∀ (id b:Nat) (d:TypeDesc) (i:TypeInfo),s.tm t=.ptr id b 0→P.underlying ty=some d→P.info? ty=some i →
    a.tmps.getD t undef=.pointer (some ⟨b,0,none⟩):=fun id b d i h1 h2 h3=>by
   simp only [FS.ev,h1] at hv;generalize hvv:a.eval (.tmp t)=v at hv;cases hv;exact hvv
  have agg:∀ (id b:Nat) (i:TypeInfo) (b':Nat) (T:TypeId) (cs:List AV),s.tm t=.ptr id b 0→P.info? ty=some i→s.bx id=some (.box b' T cs)→b'=b→cs.length=i.size→(isAgg ty).run P w=.ok true w→a.tmps.getD t undef=.pointer (some ⟨b,0,none⟩) →
    ∃ v,(Qog a.tmps (.cell t ty)).run P w=.ok v w∧Ra D w (.agg cs) v:=fun id b i b' T cs h1 h2 h3 h4 h5 h6 h7=>by
   obtain ⟨_,vs,g1,g2,g3,g4⟩:=h.bx id _ h3;subst h4;have hl:=run_loadCells_list (P:=P) (w:=w) ⟨b',0,none⟩ vs.toList (fun j v hv=>by
    rw [Qbb,Nat.zero_add,g1.cell];simpa using hv)
   have hlen:vs.toList.length=i.size:=by simp [g2,h5]
   rw [hlen] at hl;refine ⟨.agg vs,?_,.agg _ vs g2.symm g3 g4⟩;simp [Qog,h7,asAddr,loadVar,h6,Go.sizeOf,typeInfo,h2,hl]
  split at hx
  ·rename_i id b fs i h1 h2 h3
   split at hx
   ·rename_i b' T cs hy;cases hb:Nat.beq cs.length i.size with
    | false=>rw [hb] at hx;cases hx
    | true=>
     rw [hb] at hx;simp only [cond_true,W0k,W0s] at hx;obtain ⟨rfl,rfl⟩:=hx;exact agg id b i _ _ _ h1 h3 hy hp.1 (W0q hb) (by simp [isAgg,run_underlying h2]) (key id b _ i h1 h2 h3)
   ·cases hx
  ·rename_i id b n e i h1 h2 h3
   split at hx
   ·rename_i b' T cs hy;cases hb:Nat.beq cs.length i.size with
    | false=>rw [hb] at hx;cases hx
    | true=>
     rw [hb] at hx;simp only [cond_true,W0k,W0s] at hx;obtain ⟨rfl,rfl⟩:=hx;exact agg id b i _ _ _ h1 h3 hy hp.1 (W0q hb) (by simp [isAgg,run_underlying h2]) (key id b _ i h1 h2 h3)
   ·cases hx
  ·rename_i id b d i hns hna h1 h2 h3;have hk:=key id b d i h1 h2 h3
   split at hx
   ·rename_i b' T cs hy
    split at hx
    ·rename_i x0 cs;simp only [W0k,W0s] at hx;obtain ⟨rfl,rfl⟩:=hx;have hc:b'=b:=hp.1;subst hc;obtain ⟨_,vs,g1,g2,g3,g4⟩:=h.bx id _ hy;have hlt:0<vs.size:=by rw [g2];simp
     have hcell:w.cell? ⟨b',0,none⟩=some vs[0]:=by rw [g1.cell];simp [hlt]
     have hagg:(isAgg ty).run P w=.ok false w:=by
      have:∀ d,P.underlying ty=some d→(isAgg ty).run P w=.ok (match d with | .struct _=>true | .array _ _=>true | _=>false) w:=fun d hd=>by
       simp [isAgg,run_underlying hd];cases d<;>simp
      rw [this d h2];cases d<;>first | rfl | (exact (hns _ rfl).elim) | (exact (hna _ rfl).elim) | (exact (hns _ _ rfl).elim) | (exact (hna _ _ rfl).elim)
     exact ⟨vs[0],by simp [Qog,hk,asAddr,loadVar,hagg,hcell],g4 0 _ vs[0] rfl (by simp [hlt])⟩
    ·cases hx
   ·cases hx
  ·cases hx
def Zha:List AV→AV
 | [x]=>x
 | xs=>.tup xs
def Qh1 (P:Program) (s:FS):List ResultVar→Option (List Prop × List AV)
 | []=>some ([],[])
 | rv :: r=>
  match Qld P s rv,Qh1 P s r with
  | some (ps,x),some (qs,xs)=>some (ps++qs,x :: xs)
  | _,_=>none
def Qv5 (P:Program) (F:Func) (r:AV) (s:FS):Prop:=∃ ps xs,Qh1 P s F.results.toList=some (ps,xs)∧allP ps∧Sub (Zha xs) r
theorem Ql7 {c:Cx} {D:Nat→Prop} {P:Program} {s:FS} {a:Act} {w:World} (h:RelD c D s a w):∀ (rs:List ResultVar) (xs:List AV),(∀ rv∈rs,(match rv with | .tmp t=>t | .cell t _=>t)<c.n)→(∃ ps,Qh1 P s rs=some (ps,xs)∧allP ps) →
  ∃ vs:List Value,(rs.mapM (Qog a.tmps)).run P w=.ok vs w∧xs.length=vs.length∧∀ (j:Nat) (x:AV) (v:Value),xs[j]?=some x→vs[j]?=some v→Ra D w x v
 | [],xs,hn,hx=>by
  obtain ⟨ps,hx,_⟩:=hx;simp only [Qh1,W0k,W0s] at hx;obtain ⟨rfl,rfl⟩:=hx;exact ⟨[],by simp,rfl,fun j x v h=>by simp at h⟩
 | rv :: rs,xs,hn,hx=>by
  obtain ⟨ps,hx,hp⟩:=hx;simp only [Qh1] at hx
  split at hx
  ·rename_i ps1 x qs ys hr hrs;simp only [W0k,W0s] at hx;obtain ⟨rfl,rfl⟩:=hx;obtain ⟨p1,p2⟩:=Qcz hp
   ·skip
    obtain ⟨v,h1,h2⟩:=Qyu h rv x (hn rv (by simp)) hr p1;obtain ⟨vs,h3,h4,h5⟩:=Ql7 h rs ys (fun r hr=>hn r (by simp [hr])) ⟨_,hrs,p2⟩;refine ⟨v :: vs,?_,by simp [h4],fun j y u hy hu=>?_⟩
    ·rw [List.mapM_cons];simp only [Sem.run_bind,h1,Result.andThen_ok,h3];rfl
    ·cases j with
     | zero=>
      simp at hy hu;subst hy hu;exact h2
     | succ j=>exact h5 j y u (by simpa using hy) (by simpa using hu)
  ·cases hx
theorem Qfr {c:Cx} {D:Nat→Prop} {P:Program} {F:Func} {s:FS} {a:Act} {w:World} {r:AV} (h:RelD c D s a w) (hn:∀ rv∈F.results.toList,(match rv with | .tmp t=>t | .cell t _=>t)<c.n) (hd:Qv5 P F r s) :
  ∃ v,(results F a.tmps).run P w=.ok v w∧Ra D w r v:=by
 obtain ⟨ps,xs,hx,hp,hsub⟩:=hd;obtain ⟨vs,h1,h2,h3⟩:=Ql7 h _ _ hn ⟨_,hx,hp⟩;have hrun:(results F a.tmps).run P w=.ok (if h:vs.toArray.size=1 then vs.toArray[0] else .tuple vs.toArray) w:=by
  have e:results F a.tmps=(do
   let vs ← F.results.mapM (Qog a.tmps)
   pure (if h:vs.size=1 then vs[0] else .tuple vs)):=rfl
  rw [e,Array.mapM_eq_mapM_toList];simp only [Sem.run_bind,map_eq_pure_bind];rw [h1];rfl
 refine ⟨_,hrun,hsub _ _ _ ?_⟩
 match xs,vs,h2,h3 with
 | [x],[v],_,h3=>exact h3 0 x v rfl rfl
 | [],[],_,_=>exact .tup [] _ rfl (fun j x v h=>by simp at h)
 | x :: y :: xs,v :: u :: vs,h2,h3=>
  rw [dif_neg (by simp)];exact .tup _ _ (by simpa using h2) (fun j x v hx hv=>h3 j x v hx (by simpa using hv))
theorem Zla {P:Program} {f:FuncId} {F:Func} {code:Code} {args:List AV} {r:AV} (hf:P.funcs[f]?=some F) (hb:F.body=some code) (hsz:args.length≤F.ntmps)
  (hn:(F.results.toList.all fun rv=>decide ((match rv with | .tmp t=>t | .cell t _=>t)<F.ntmps))=true)
  (h:∀ c:Cx,c.n=F.ntmps→AWp c P code (fun e s=>(e=.normal∨e=.ret)∧Qv5 P F r s) ⟨fun t=>args.getD t .any,fun _=>none⟩):Qag P f args r:=by
 intro D w vs hD hvs;refine calls_of_wp hf hb ?_
 let c:Cx:=⟨w.heap.size,w,F.ntmps,D,fun _=>False⟩
 have hrel:Rel c ⟨fun t=>args.getD t .any,fun _=>none⟩ { tmps:=vs++Array.replicate (F.ntmps-vs.size) undef,defers:=[] } w:=by
  refine ⟨W0m _,D,rfl,?_,BelowL.refl (c:=c),hD,⟨fun _ h=>h,fun _ h=>.inl h⟩,fun t v hv=>?_,fun id x h=>(by cases h),fun i j x y h=>(by cases h)⟩
  ·have:=hvs.1;simp [c];omega
  ·by_cases ht:t<vs.size
   ·rw [W2b ht] at hv;have hta:t<args.length:=by rw [hvs.1];exact ht
    have:=hvs.2 t args[t] v (W0d hta) hv;simpa [List.getD,W0d hta] using this
   ·have hta:args.length≤t:=by rw [hvs.1];omega
    have:args.getD t .any=.any:=by simp [List.getD,W1h hta]
    simp only [this];exact .any v
 refine wp_mono (h c rfl _ _ hrel) fun e a' w' ⟨s',hq,hc,D',hR⟩=>?_;obtain ⟨he,hd⟩:=hq;have hn':∀ rv∈F.results.toList,(match rv with | .tmp t=>t | .cell t _=>t)<c.n:=fun rv hrv=>by
  have:=W1z.1 hn rv hrv;simpa using this
 obtain ⟨v,hv,hrv⟩:=Qfr hR hn' hd;have key:∃ v,∃ D'':Nat→Prop,Ending.returned v=.returned v∧True:=⟨v,D',rfl,trivial⟩
 have fin:(∃ u,∃ D'':Nat→Prop,Ending.returned v=.returned u∧Below w.heap.size w w'∧(∀ b,D b→D'' b)∧(∀ b,D'' b→b<w'.heap.size∧(D b∨w.heap.size≤b))∧Ra D'' w' r u):=
  ⟨v,D',rfl,hR.below.plain (fun _ h=>h),hR.old.1,fun b hb=>⟨hR.dlt b hb,(hR.old.2 b hb).imp id fun h=>h.resolve_right id⟩,hrv⟩
 rcases he with rfl | rfl
 ·exact ⟨hR.defers,v,hv,fin⟩
 ·exact ⟨hR.defers,v,hv,fin⟩
theorem sR {a:AV}:Sub a a:=Sub.refl a
theorem sr1 {a0:AV}:Sub a0 a0∧True:=⟨Sub.refl _,trivial⟩
theorem sr2 {a0:AV} {a1:AV}:Sub a0 a0∧Sub a1 a1∧True:=⟨Sub.refl _,Sub.refl _,trivial⟩
theorem sr3 {a0:AV} {a1:AV} {a2:AV}:Sub a0 a0∧Sub a1 a1∧Sub a2 a2∧True:=⟨Sub.refl _,Sub.refl _,Sub.refl _,trivial⟩
theorem sr4 {a0:AV} {a1:AV} {a2:AV} {a3:AV}:Sub a0 a0∧Sub a1 a1∧Sub a2 a2∧Sub a3 a3∧True:=⟨Sub.refl _,Sub.refl _,Sub.refl _,Sub.refl _,trivial⟩
theorem sr5 {a0:AV} {a1:AV} {a2:AV} {a3:AV} {a4:AV}:Sub a0 a0∧Sub a1 a1∧Sub a2 a2∧Sub a3 a3∧Sub a4 a4∧True:=⟨Sub.refl _,Sub.refl _,Sub.refl _,Sub.refl _,Sub.refl _,trivial⟩
theorem sr6 {a0:AV} {a1:AV} {a2:AV} {a3:AV} {a4:AV} {a5:AV}:Sub a0 a0∧Sub a1 a1∧Sub a2 a2∧Sub a3 a3∧Sub a4 a4∧Sub a5 a5∧True:=⟨Sub.refl _,Sub.refl _,Sub.refl _,Sub.refl _,Sub.refl _,Sub.refl _,trivial⟩
theorem sr7 {a0:AV} {a1:AV} {a2:AV} {a3:AV} {a4:AV} {a5:AV} {a6:AV}:Sub a0 a0∧Sub a1 a1∧Sub a2 a2∧Sub a3 a3∧Sub a4 a4∧Sub a5 a5∧Sub a6 a6∧True:=⟨Sub.refl _,Sub.refl _,Sub.refl _,Sub.refl _,Sub.refl _,Sub.refl _,Sub.refl _,trivial⟩
theorem sr8 {a0:AV} {a1:AV} {a2:AV} {a3:AV} {a4:AV} {a5:AV} {a6:AV} {a7:AV}:Sub a0 a0∧Sub a1 a1∧Sub a2 a2∧Sub a3 a3∧Sub a4 a4∧Sub a5 a5∧Sub a6 a6∧Sub a7 a7∧True:=⟨Sub.refl _,Sub.refl _,Sub.refl _,Sub.refl _,Sub.refl _,Sub.refl _,Sub.refl _,Sub.refl _,trivial⟩
theorem sr9 {a0:AV} {a1:AV} {a2:AV} {a3:AV} {a4:AV} {a5:AV} {a6:AV} {a7:AV} {a8:AV}:Sub a0 a0∧Sub a1 a1∧Sub a2 a2∧Sub a3 a3∧Sub a4 a4∧Sub a5 a5∧Sub a6 a6∧Sub a7 a7∧Sub a8 a8∧True:=⟨Sub.refl _,Sub.refl _,Sub.refl _,Sub.refl _,Sub.refl _,Sub.refl _,Sub.refl _,Sub.refl _,Sub.refl _,trivial⟩
theorem sr10 {a0:AV} {a1:AV} {a2:AV} {a3:AV} {a4:AV} {a5:AV} {a6:AV} {a7:AV} {a8:AV} {a9:AV}:Sub a0 a0∧Sub a1 a1∧Sub a2 a2∧Sub a3 a3∧Sub a4 a4∧Sub a5 a5∧Sub a6 a6∧Sub a7 a7∧Sub a8 a8∧Sub a9 a9∧True:=⟨Sub.refl _,Sub.refl _,Sub.refl _,Sub.refl _,Sub.refl _,Sub.refl _,Sub.refl _,Sub.refl _,Sub.refl _,Sub.refl _,trivial⟩
theorem sr11 {a0:AV} {a1:AV} {a2:AV} {a3:AV} {a4:AV} {a5:AV} {a6:AV} {a7:AV} {a8:AV} {a9:AV} {a10:AV}:Sub a0 a0∧Sub a1 a1∧Sub a2 a2∧Sub a3 a3∧Sub a4 a4∧Sub a5 a5∧Sub a6 a6∧Sub a7 a7∧Sub a8 a8∧Sub a9 a9∧Sub a10 a10∧True:=⟨Sub.refl _,Sub.refl _,Sub.refl _,Sub.refl _,Sub.refl _,Sub.refl _,Sub.refl _,Sub.refl _,Sub.refl _,Sub.refl _,Sub.refl _,trivial⟩
theorem sr12 {a0:AV} {a1:AV} {a2:AV} {a3:AV} {a4:AV} {a5:AV} {a6:AV} {a7:AV} {a8:AV} {a9:AV} {a10:AV} {a11:AV}:Sub a0 a0∧Sub a1 a1∧Sub a2 a2∧Sub a3 a3∧Sub a4 a4∧Sub a5 a5∧Sub a6 a6∧Sub a7 a7∧Sub a8 a8∧Sub a9 a9∧Sub a10 a10∧Sub a11 a11∧True:=⟨Sub.refl _,Sub.refl _,Sub.refl _,Sub.refl _,Sub.refl _,Sub.refl _,Sub.refl _,Sub.refl _,Sub.refl _,Sub.refl _,Sub.refl _,Sub.refl _,trivial⟩
theorem sr13 {a0:AV} {a1:AV} {a2:AV} {a3:AV} {a4:AV} {a5:AV} {a6:AV} {a7:AV} {a8:AV} {a9:AV} {a10:AV} {a11:AV} {a12:AV}:Sub a0 a0∧Sub a1 a1∧Sub a2 a2∧Sub a3 a3∧Sub a4 a4∧Sub a5 a5∧Sub a6 a6∧Sub a7 a7∧Sub a8 a8∧Sub a9 a9∧Sub a10 a10∧Sub a11 a11∧Sub a12 a12∧True:=⟨Sub.refl _,Sub.refl _,Sub.refl _,Sub.refl _,Sub.refl _,Sub.refl _,Sub.refl _,Sub.refl _,Sub.refl _,Sub.refl _,Sub.refl _,Sub.refl _,Sub.refl _,trivial⟩
theorem sr14 {a0:AV} {a1:AV} {a2:AV} {a3:AV} {a4:AV} {a5:AV} {a6:AV} {a7:AV} {a8:AV} {a9:AV} {a10:AV} {a11:AV} {a12:AV} {a13:AV}:Sub a0 a0∧Sub a1 a1∧Sub a2 a2∧Sub a3 a3∧Sub a4 a4∧Sub a5 a5∧Sub a6 a6∧Sub a7 a7∧Sub a8 a8∧Sub a9 a9∧Sub a10 a10∧Sub a11 a11∧Sub a12 a12∧Sub a13 a13∧True:=⟨Sub.refl _,Sub.refl _,Sub.refl _,Sub.refl _,Sub.refl _,Sub.refl _,Sub.refl _,Sub.refl _,Sub.refl _,Sub.refl _,Sub.refl _,Sub.refl _,Sub.refl _,Sub.refl _,trivial⟩
theorem sr15 {a0:AV} {a1:AV} {a2:AV} {a3:AV} {a4:AV} {a5:AV} {a6:AV} {a7:AV} {a8:AV} {a9:AV} {a10:AV} {a11:AV} {a12:AV} {a13:AV} {a14:AV}:Sub a0 a0∧Sub a1 a1∧Sub a2 a2∧Sub a3 a3∧Sub a4 a4∧Sub a5 a5∧Sub a6 a6∧Sub a7 a7∧Sub a8 a8∧Sub a9 a9∧Sub a10 a10∧Sub a11 a11∧Sub a12 a12∧Sub a13 a13∧Sub a14 a14∧True:=⟨Sub.refl _,Sub.refl _,Sub.refl _,Sub.refl _,Sub.refl _,Sub.refl _,Sub.refl _,Sub.refl _,Sub.refl _,Sub.refl _,Sub.refl _,Sub.refl _,Sub.refl _,Sub.refl _,Sub.refl _,trivial⟩
theorem sr16 {a0:AV} {a1:AV} {a2:AV} {a3:AV} {a4:AV} {a5:AV} {a6:AV} {a7:AV} {a8:AV} {a9:AV} {a10:AV} {a11:AV} {a12:AV} {a13:AV} {a14:AV} {a15:AV}:Sub a0 a0∧Sub a1 a1∧Sub a2 a2∧Sub a3 a3∧Sub a4 a4∧Sub a5 a5∧Sub a6 a6∧Sub a7 a7∧Sub a8 a8∧Sub a9 a9∧Sub a10 a10∧Sub a11 a11∧Sub a12 a12∧Sub a13 a13∧Sub a14 a14∧Sub a15 a15∧True:=⟨Sub.refl _,Sub.refl _,Sub.refl _,Sub.refl _,Sub.refl _,Sub.refl _,Sub.refl _,Sub.refl _,Sub.refl _,Sub.refl _,Sub.refl _,Sub.refl _,Sub.refl _,Sub.refl _,Sub.refl _,Sub.refl _,trivial⟩
theorem rt1 {t0:Type} {a0:t0}:a0=a0∧True:=⟨rfl,trivial⟩
theorem rt2 {t0:Type} {t1:Type} {a0:t0} {a1:t1}:a0=a0∧a1=a1∧True:=⟨rfl,rfl,trivial⟩
theorem rt3 {t0:Type} {t1:Type} {t2:Type} {a0:t0} {a1:t1} {a2:t2}:a0=a0∧a1=a1∧a2=a2∧True:=⟨rfl,rfl,rfl,trivial⟩
theorem rt4 {t0:Type} {t1:Type} {t2:Type} {t3:Type} {a0:t0} {a1:t1} {a2:t2} {a3:t3}:a0=a0∧a1=a1∧a2=a2∧a3=a3∧True:=⟨rfl,rfl,rfl,rfl,trivial⟩
theorem rt5 {t0:Type} {t1:Type} {t2:Type} {t3:Type} {t4:Type} {a0:t0} {a1:t1} {a2:t2} {a3:t3} {a4:t4}:a0=a0∧a1=a1∧a2=a2∧a3=a3∧a4=a4∧True:=⟨rfl,rfl,rfl,rfl,rfl,trivial⟩
theorem rt6 {t0:Type} {t1:Type} {t2:Type} {t3:Type} {t4:Type} {t5:Type} {a0:t0} {a1:t1} {a2:t2} {a3:t3} {a4:t4} {a5:t5}:a0=a0∧a1=a1∧a2=a2∧a3=a3∧a4=a4∧a5=a5∧True:=⟨rfl,rfl,rfl,rfl,rfl,rfl,trivial⟩
end Copyhold
namespace Copyhold
abbrev W2p:=@Sub.loose
end Copyhold
