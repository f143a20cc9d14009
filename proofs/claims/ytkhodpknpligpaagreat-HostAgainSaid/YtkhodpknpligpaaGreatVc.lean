import Derived.Test.YtkhodpknpligpaaGreatAl
import Derived.Test.YtkhodpknpligpaaGreatMrgF
import Derived.Scope
import Derived.ScopeJumps
set_option linter.unusedVariables false
set_option linter.unusedSimpArgs false
namespace Go.Proofs.YtkhodpknpligpaaGreat
open Go Go.RowKit Copyhold
structure Lp (α:Type) where
 st:α→LS
 μ:α→Nat
 H:α→Prop
structure Jn (α:Type) where
 st:α→LS
 H:α→Prop
def Qto (ys:List (Nat × Bx)) (g:Nat):Prop:=∃ p∈ys,p.2.blk=some g
def Zgb (ys:List (Nat × Bx)):Prop:=∀ p∈ys,∀ q∈ys,p.1 ≠ q.1→∀ g,p.2.blk=some g→q.2.blk ≠ some g
def Ql6 (s:FS):List (Nat × Bx)→FS
 | []=>s
 | (i,y) :: r=>Ql6 (s.setB i (some y)) r
theorem Qwe:∀ {l:List (Nat × Bx)} {s:FS} {i:Nat} {x:Bx},(Ql6 s l).bx i=some x→(i,x)∈l∨(s.bx i=some x∧∀ p∈l,p.1 ≠ i)
 | [],s,i,x,h=>.inr ⟨h,fun p hp=>(by cases hp)⟩
 | (j,y) :: r,s,i,x,h=>by
  rcases Qwe (l:=r) (s:=s.setB j (some y)) h with h1 | ⟨h1,h2⟩
  ·exact .inl (W11 _ h1)
  ·simp only [FS.setB] at h1
   split at h1
   ·rename_i e;subst e;obtain rfl:=W0c h1;exact .inl (List.mem_cons_self ..)
   ·rename_i e;refine .inr ⟨h1,fun p hp=>?_⟩;rcases W0y.1 hp with rfl | hp
    ·exact fun e2=>e e2.symm
    ·exact h2 p hp
theorem Qwd:∀ (l:List (Nat × Bx)) (s:FS),(Ql6 s l).tm=s.tm
 | [],_=>rfl
 | (i,y) :: r,s=>by
  show (Ql6 (s.setB i (some y)) r).tm=_;rw [Qwd r];rfl
theorem Qrs:∀ (l:List (Nat × Bx)) (s:FS) (d:Option Tmp) (x:AV),(Ql6 s l).put d x=Ql6 (s.put d x) l
 | [],_,_,_=>rfl
 | (i,y) :: r,s,d,x=>by
  show (Ql6 (s.setB i (some y)) r).put d x=Ql6 ((s.put d x).setB i (some y)) r;rw [Qrs r,Qle]
theorem Zlp {c:Cx} {D D':Nat→Prop} {s:FS} {a:Act} {w w':World} (h:RelD c D s a w) (hc:c.base≤w.heap.size) {ys ys':List (Nat × Bx)} (hy:∀ p∈ys,s.bx p.1=some p.2)
  (hkey:ys'.map Prod.fst=ys.map Prod.fst) (h0:Below 0 w w') (hk:∀ k,¬ Qto ys k→k<w.heap.size→w'.heap[k]?=w.heap[k]?) (hDD:∀ b,D b→D' b)
  (hD':∀ b,D' b→b<w'.heap.size∧(D b∨Qto ys b∨w.heap.size≤b)) (hb:∀ p∈ys',∀ g,p.2.blk=some g→(Qto ys g∨w.heap.size≤g)∧¬ D' g) (hR:∀ p∈ys',BoxR D' w' p.2) (hap:Zgb ys') :
  RelD c D' (Ql6 s ys') a w':=by
 have lo:∀ g,Qto ys g→c.own g∧¬ D g:=fun g ⟨p,hp,e⟩=>(h.bx p.1 p.2 (hy p hp)).1 g e;have hbx:∀ i x,(Ql6 s ys').bx i=some x→(i,x)∈ys'∨(s.bx i=some x∧∀ p∈ys,p.1 ≠ i):=fun i x hx=>by
  rcases Qwe hx with h1 | ⟨h1,h2⟩
  ·exact .inl h1
  ·refine .inr ⟨h1,fun p hp e=>?_⟩;have:p.1∈ys'.map Prod.fst:=by rw [hkey];exact List.mem_map_of_mem hp
   obtain ⟨q,hq,e2⟩:=W1i.1 this;exact h2 q hq (e2.trans e)
 have no:∀ i x,s.bx i=some x→(∀ p∈ys,p.1 ≠ i)→∀ g,x.blk=some g→¬ Qto ys g:=fun i x hx hn g hg ⟨p,hp,e⟩=>h.apart i p.1 x p.2 hx (hy p hp) (fun e=>hn p hp e.symm) g hg e;have hkD:∀ b,D b→b<w.heap.size→w'.heap[b]?=w.heap[b]?:=fun b hd hl=>hk b (fun e=>(lo b e).2 hd) hl;refine ⟨h.defers,h.size,?_,fun b hd=>(hD' b hd).1,⟨fun b hb=>hDD b (h.old.1 b hb),fun b hb=>?_⟩,fun t v hv=>?_,?_,?_⟩
 ·refine ⟨h0.os.trans h.below.os,h0.tape.trans h.below.tape,h0.output.trans h.below.output,W09 h.below.size h0.size,fun k hlt hl=>?_⟩;rw [hk k (fun e=>by rcases (lo k e).1 with g | g;(· omega);exact hl g) (by omega)];exact h.below.block k hlt hl
 ·rcases (hD' b hb).2 with e | e | e
  ·exact h.old.2 b e
  ·exact .inr (lo b e).1
  ·exact .inr (.inl (W09 hc e))
 ·rw [Qwd];exact (h.tm t v hv).frame hDD h0.size hkD
 ·intro i x hx;rcases hbx i x hx with hm | ⟨ho,hn⟩
  ·refine ⟨fun g hg=>⟨?_,(hb _ hm g hg).2⟩,hR _ hm⟩;rcases (hb _ hm g hg).1 with e | e
   ·exact (lo g e).1
   ·exact .inl (W09 hc e)
  ·obtain ⟨h1,h3⟩:=h.bx i x ho;refine ⟨fun g hg=>⟨(h1 g hg).1,fun hd=>?_⟩,h3.frame hDD h0.size hkD (fun g hg=>hk _ (no i x ho hn g hg) (h3.lt hg))⟩;rcases (hD' g hd).2 with e | e | e
   ·exact (h1 g hg).2 e
   ·exact no i x ho hn g hg e
   ·have:=h3.lt hg;omega
 ·intro i j x x' hx hx' hij g hg hg';rcases hbx i x hx with hm | ⟨ho,hn⟩<;>rcases hbx j x' hx' with hm' | ⟨ho',hn'⟩
  ·exact hap _ hm _ hm' hij g hg hg'
  ·have h3:=(h.bx j x' ho').2.lt hg';rcases (hb _ hm g hg).1 with e | e
   ·exact no j x' ho' hn' g hg' e
   ·omega
  ·have h3:=(h.bx i x ho).2.lt hg;rcases (hb _ hm' g hg').1 with e | e
   ·exact no i x ho hn g hg e
   ·omega
  ·exact h.apart i j x x' ho ho' hij g hg hg'
def MutN (P:Program) (o:Oper) (s:FS) (ys:List (Nat × Bx)) (ys':Value→List (Nat × Bx)) (x:AV):Prop:=
 (∀ p∈ys,s.bx p.1=some p.2)∧(∀ V,(ys' V).map Prod.fst=ys.map Prod.fst) ∧
 ∀ (D:Nat→Prop) (w:World) (a:Act) (Q:Exit→Act→World→Prop) (K:Act→World→Prop),(∀ b,D b→b<w.heap.size)→opsR D w s a.eval o→(∀ p∈ys,BoxR D w p.2)→(∀ p∈ys,∀ g,p.2.blk=some g→¬ D g)→Zgb ys →
  (∀ V v w' (D':Nat→Prop),Below 0 w w'→(∀ k,¬ Qto ys k→k<w.heap.size→w'.heap[k]?=w.heap[k]?)→(∀ b,D b→D' b)→(∀ b,D' b→b<w'.heap.size∧(D b∨Qto ys b∨w.heap.size≤b)) →
   (∀ p∈ys' V,∀ g,p.2.blk=some g→(Qto ys g∨w.heap.size≤g)∧¬ D' g)→(∀ p∈ys' V,BoxR D' w' p.2)→Zgb (ys' V)→Ra D' w' x v→K (a.put o.dst v) w')→o.wp P a w K Q
def Qtk (P:Program) (ops:Array Oper) (i:Nat) (s:FS) (K:FS→Prop):Prop:=
 ∃ o,ops[i]?=some o∧gd ops s o=some true∧((∃ id Out,MutF P o s id Out∧∀ x y',Out x y'→K ((s.put o.dst x).setB id (some y')))∨∃ ys ys' x,MutN P o s ys ys' x∧∀ V,K (Ql6 (s.put o.dst x) (ys' V)))
theorem Qtk.sound {c:Cx} {P:Program} {ops:Array Oper} {i:Nat} {s:FS} {K:FS→Prop} {a:Act} {w:World} {Q:Exit→Act→World→Prop} (hs:Qbv c.n ops=true) (h:Qtk P ops i s K) (hr:Rel c s a w) :
  wpOp P ops Q i (fun a' w'=>∃ s',K s'∧Rel c s' a' w') a w:=by
 obtain ⟨o,ho,h1,h⟩:=h;obtain ⟨hc,D,hR⟩:=hr;have hops:opsR D w s a.eval o:=fun y hy=>hR.ev y (Qoa hs ho hy);unfold wpOp;simp only [ho];rw [W1x (Qgs hs hR h1)];left;rcases h with ⟨id,Out,h4,h5⟩ | ⟨ys,ys',x,⟨hy,hkey,h4⟩,h5⟩
 rotate_left
 ·refine h4 D w a Q _ hR.dlt hops (fun p hp=>(hR.bx p.1 p.2 (hy p hp)).2) (fun p hp g hg=>((hR.bx p.1 p.2 (hy p hp)).1 g hg).2) (fun p hp q hq hne g hg=>hR.apart p.1 q.1 p.2 q.2 (hy p hp) (hy q hq) hne g hg) (fun V v w' D' h0 hk hDD hD' hb hB hap hv=>?_);refine ⟨_,h5 V,W09 hc h0.size,D',?_⟩;rw [← Qrs];exact (Zlp hR hc hy (hkey V) h0 hk hDD hD' hb hB hap).put _ hv
 refine h4 D w a Q _ hR.dlt hops hR.boxes (fun y g hy hg=>((hR.bx id y hy).1 g hg).2) (fun v w' x y y' D' hO hy h0 hk hDD hD' hb hB hv=>?_);refine ⟨_,h5 x y' hO,W09 hc h0.size,D',?_⟩;rw [← Qle];exact (hR.mutF hc id y y' hy h0 hk hDD hD' hb hB).put _ hv
theorem Qrj {c:Cx} {P:Program} {Q:Exit→FS→Prop} {ops:Array Oper} {K:FS→Prop} {rest:List Nat} (hs:Qbv c.n ops=true)
  (hK:∀ s a w,K s→Rel c s a w→wpOps P ops (fun e a' w'=>∃ s',Q e s'∧Rel c s' a' w') rest a w):∀ (l:List Nat) (s:FS) (a:Act) (w:World),SeqR P ops K l s→Rel c s a w→wpOps P ops (fun e a' w'=>∃ s',Q e s'∧Rel c s' a' w') (l++rest) a w
 | [],s,a,w,h,hr=>hK s a w h hr
 | i :: r,s,a,w,h,hr=>by
  rw [List.cons_append,wpOps_cons];exact wpOp_mono (fun a' w' ⟨s',h',hr'⟩=>Qrj hs hK r s' a' w' h' hr') (Qf9.sound hs h hr)
theorem Qvs {c:Cx} {P:Program} {Q:Exit→FS→Prop} {s:FS} {id:Nat} {ops:Array Oper} (pre:List Nat) (j:Nat) (post:List Nat) (hs:Qbv c.n ops=true) (ho:(List.range ops.size==pre++j :: post)=true)
  (h:SeqR P ops (fun s'=>Qtk P ops j s' (SeqR P ops (Q .normal) post)) pre s):AWp c P (.region id ops false) Q s:=fun a w hr=>by
 refine wp_region ?_;rw [beq_iff_eq.1 ho];refine Qrj hs (fun s a w hk hr=>?_) pre s a w h hr;rw [wpOps_cons];exact wpOp_mono (fun a' w' ⟨s',h',hr'⟩=>Qpj hs post s' a' w' h' hr') (Qtk.sound hs hk hr)
inductive Ct (P:Program):Type 1 where
 | fin (ps:List Prop) (hp:allP ps) {x r:AV} (h:Sub x r)
 | ord (l:List Nat) (k:Ct P)
 | ordA (pre:List Nat) (alts:List (List Nat)) (k:Ct P)
 | alt (a b:Ct P)
 | pick (is:List Nat) (k:Ct P)
 | fork (k:Ct P)
 | run (n:Nat) (ps:List Prop) (hp:allP ps) (k:Ct P)
 | new (k:Nat→Ct P)
 | call {f:FuncId} {args:List AV} {r:AV} (h:Qag P f args r) (k:Ct P)
 | callS {f:FuncId} {args0 args:List AV} {r:AV} (hs:Qc0 args0 args) (h:Qag P f args r) (k:Ct P)
 | callRow {f:FuncId} {args0 args:List AV} {e k:Nat} {xs:List (List AV)} (hs:Qc0 args0 args) (hk:∀ l∈xs,l.length=k) (h:Qq2 P f args e k xs) (c:Value→Ct P)
 | idx (j:Nat) {m:Int} {xs:List (List AV)} {e:List AV} (hm:m=(j:Int)) (he:xs[j]?=some e) (k:Ct P)
 | idxM {β:Type} (l:List β) (f:β→List AV) (j:Nat) {m:Int} (hm:m=(j:Int)) (hj:j<l.length) (c:∀ x,l[j]?=some x→Ct P)
 | is (t:Nat) {b v:Bool} (h:b=v) (k:Ct P)
 | br (t:Nat) (b:Bool) (k1:b=true→Ct P) (k2:b=false→Ct P)
 | val (t:Nat) {x y:AV} (h:x=y) (k:Ct P)
 | ex {β:Type} {p:β→Prop} (h:∃ x,p x) (c:∀ x,p x→Ct P)
 | no (h:False)
 | slc (kk:Nat) (tt:Bool) (xs:List (List AV)) (l h m:Option Int) (a b:Nat) (t':Bool) (hlo:loOk l a) (hhi:hiOk h b xs.length) (hmx:mxOk m h b tt t' xs.length) (hab:a≤b) (hbn:b≤xs.length) (k:Ct P)
 | slcS (tx:List UInt8) (l h:Option Int) (a b:Nat) (hlo:loOk l a) (hhi:hiOk h b tx.length) (hab:a≤b) (hbn:b≤tx.length) (k:Ct P)
 | app (bytes:Nat) (V:Value) (xs ys:List (List AV)) (h63:xs.length+ys.length≤140737488355327) (hby:(xs.length+ys.length)*bytes≤140737488355328) (c:Value→Ct P)
 | appNew (bytes kk:Nat) {x0:AV} (xs ys:List (List AV)) (hs:Sub x0 (.sl kk true xs)) (h1:1≤ys.length) (hk:∀ l∈xs++ys,l.length=kk) (h63:xs.length+ys.length≤140737488355327) (hby:(xs.length+ys.length)*bytes≤140737488355328) (c:Value→Ct P)
 | appNone (bytes:Nat) (k:Ct P)
 | isNil (xs:List (List AV)) (c:∀ b:Bool,(b=true→xs=[])→Ct P)
 | mk0 (bytes cap:Nat) {m:Int} (hm:m=(cap:Int)) (hby:bytes*cap≤140737488355328) (h63:cap≤140737488355327) (c:Value→Ct P)
 | lit0 (c:Value→Ct P)
 | litN (c:Value→Ct P)
 | mkMap (c:Nat→Ct P)
 | ins (r:Nat) {kk:MK} {es:List (MK × AV)} (hn:Qdb kk es 0=none) (k:Ct P)
 | look {kk:MK} {es:List (MK × AV)} {fd:Option (Nat × AV)} (hn:Qdb kk es 0=fd) (k:Ct P)
 | eqS (k:Ct P)
 | binV (op:BinOp) (t:TypeId) {a b x:AV} (h:∀ (D:Nat→Prop) (w:World) (xo yo:Operand) (u v:Value),Ra D w a u→Ra D w b v→∃ r,((do Go.eqGuard op t xo yo u v;Go.binOp op t u v):Sem Value).run P w=.ok r w∧Ra D w x r) (k:Ct P)
 | byte (j:Nat) {m:Int} {tx:List UInt8} (hm:m=(j:Int)) (hj:j<tx.length) (c:∀ c:UInt8,tx[j]?=some c→Ct P)
 | frz (id:Nat) (ts bs:List Nat) (ps:List Prop) (hp:allP ps) (k:Ct P)
 | rowNil (id t e k:Nat) (c:Ct P)
 | rowNilB (id q j e k:Nat) (c:Ct P)
 | loop {α:Type} (L:Lp α) (a0:α) (hH:L.H a0) (s0:LS) (h1:leT s0 (L.st a0).tm) (h2:leB s0 (L.st a0).bx) (c:∀ a,L.H a→Ct P)
 | back {α:Type} (L:Lp α) (a b:α) (hH:L.H b) (hμ:L.μ b<L.μ a) (s0:LS) (h1:leT s0 (L.st b).tm) (h2:leB s0 (L.st b).bx)
 | lent (j:Nat) (k:Ct P)
 | lop {α β:Type} (rd:Array Oper→LS→Nat→Option β) (b:β) (upd:α→LS→LS) (h:∀ (ops:Array Oper) (i:Nat) (s:LS) (K:FS→Prop),rd ops s i=some b→(∀ a,K (upd a s).fs)→Qtk P ops i s.fs K) (k:α→Ct P)
 | jump {α:Type} (l:Nat) (L:Lp α) (k:Ct P) (c:∀ a,L.H a→Ct P)
 | back0 {α:Type} (L:Lp α) (b:α) (hH:L.H b) (s0:LS) (h1:leT s0 (L.st b).tm) (h2:leB s0 (L.st b).bx)
 | cut {α:Type} (J:Jn α) (k:Ct P) (c:∀ a,J.H a→Ct P)
 | join {α:Type} (J:Jn α) (b:α) (hH:J.H b) (s0:LS) (h1:leT s0 (J.st b).tm) (h2:leB s0 (J.st b).bx)
 | into (k:Ct P)
 | finB (ps:List Prop) (hp:allP ps) {x r:AV} (y:Bx) (h:Sub x r)
 | finBs (ps:List Prop) (hp:allP ps) {x r:AV} (V:Value) (ys:List (Nat × Bx)) (h:Sub x r)
 | finRow (ps:List Prop) (hp:allP ps) (q e k n:Nat) (V:Value) {x r:List (List AV)} (h:x=r)
 | op {α β:Type} (rd:Array Oper→LS→Nat→Option β) (b:β) (upd:α→LS→LS) (h:∀ (ops:Array Oper) (i:Nat) (s:LS) (K:FS→Prop) (rest:List Nat),rd ops s i=some b→(∀ a,SeqR P ops K rest (upd a s).fs)→SeqR P ops K (i :: rest) s.fs) (k:α→Ct P)
 | st {α β:Type} (rd:LS→Option β) (b:β) (upd:α→LS→LS) (h:∀ (c:Cx) (Q:Exit→FS→Prop) (code:Code) (s:LS),rd s=some b→(∀ a,AWp c P code Q (upd a s).fs)→AWp c P code Q s.fs) (k:α→Ct P)
 | via {α β:Type} (nt:Nat) (code rest:Code) (rd:LS→Option β) (b:β) (upd:α→LS→LS) (h:∀ (c:Cx) (Q:Exit→FS→Prop) (s:LS),c.n=nt→P.follows .mixedOrders=true→rd s=some b→(∀ a,AWp c P rest Q (upd a s).fs)→AWp c P code Q s.fs) (k:α→Ct P)
inductive Fr:Type 1 where
 | k (c:Code)
 | blk (id:Nat)
 | lp {α:Type} (L:Lp α) (a:α)
 | jn {α:Type} (J:Jn α)
 | jmp {α:Type} (l:Nat) (L:Lp α) (m:Option α)
 | scp
def Zck (Q:Exit→FS→Prop):Exit→FS→Prop
 | .goto _,_=>False
 | e,s=>Q e s
theorem Qtd {c:Cx} {P:Program} {Q:Exit→FS→Prop} {s:FS} {x:Code} (h:AWp c P x (Zck Q) s):AWp c P (.scope x) Q s:=fun a w hr=>
 wp_scope_straight (wp_mono (h a w hr) fun e a' w' ⟨s',hq,hr'⟩=>by
  cases e<;>first | exact hq.elim | exact ⟨s',hq,hr'⟩)
def jmpQ (l:Nat) (J:FS→Prop) (Q:Exit→FS→Prop):Exit→FS→Prop
 | .goto l',s=>l'=l∧J s
 | e,s=>Q e s
theorem least_of {p:Nat→Prop} (h:∃ n,p n):∃ n,p n∧∀ m,p m→n≤m:=by
 obtain ⟨n,hn⟩:=h
 induction n using Nat.strongRecOn with
 | _ n ih=>
  by_cases hm:∃ m,m<n∧p m
  ·obtain ⟨m,h1,h2⟩:=hm;exact ih m h1 h2
  ·exact ⟨n,hn,fun m h=>by
    by_cases hl:n≤m
    ·exact hl
    ·exact (hm ⟨m,by omega,h⟩).elim⟩
open Classical in
theorem Zfr {c:Cx} {P:Program} {Q:Exit→FS→Prop} {x rest:Code} {s:FS} {α:Type} (l:Nat) (st:α→LS) (μ:α→Nat) (H:α→Prop) (hf:findLabel x l=some rest)
  (first:AWp c P x (jmpQ l (fun s'=>∃ b,H b∧s'.le' (st b).fs) Q) s)
  (pass:∀ a,H a→AWp c P rest (jmpQ l (fun s'=>∃ b,H b∧μ b<μ a∧s'.le' (st b).fs) Q) (st a).fs):AWp c P (.scope x) Q s:=fun A w hr=>by
 let R:Act→World→Nat→Prop:=fun A' w' n=>∃ a,H a∧μ a=n∧∃ s':FS,s'.le' (st a).fs∧Rel c s' A' w'
 refine wp_scope_jumps l (fun A' w'=>∃ n,R A' w' n) (fun A' w'=>if h:∃ n,R A' w' n then Classical.choose (least_of h) else 0) hf (wp_mono (first A w hr) ?_) ?_
 ·rintro e A' w' ⟨s',hq,hr'⟩;cases e with
  | goto l'=>
   obtain ⟨rfl,b,hb,hl⟩:=hq;exact ⟨rfl,μ b,b,hb,rfl,s',hl,hr'⟩
  | _=>exact ⟨s',hq,hr'⟩
 ·intro A1 w1 hJ;have hsp:=Classical.choose_spec (least_of hJ);obtain ⟨⟨a,ha,hma,s',hl,hr1⟩,hmin⟩:=hsp;refine wp_mono (AWp.weaken hl (pass a ha) A1 w1 hr1) ?_;rintro e A' w' ⟨s'',hq,hr'⟩;cases e with
  | goto l'=>
   obtain ⟨rfl,b,hb,hm,hl'⟩:=hq;have hR:R A' w' (μ b):=⟨b,hb,rfl,s'',hl',hr'⟩
   have hJ':∃ n,R A' w' n:=⟨_,hR⟩
   refine ⟨rfl,hJ',?_⟩;rw [dif_pos hJ',dif_pos hJ];have:=(Classical.choose_spec (least_of hJ')).2 _ hR;omega
  | _=>exact ⟨s'',hq,hr'⟩
def ltO {α:Type} (L:Lp α):Option α→α→Prop
 | none,_=>True
 | some a,b=>L.μ b<L.μ a
def QF (c:Cx) (P:Program) (Q:Exit→FS→Prop):List Fr→Exit→FS→Prop
 | []=>Q
 | .k y :: r=>Qyi (AWp c P y (QF c P Q r)) (QF c P Q r)
 | .blk id :: r=>Qs9 id (QF c P Q r)
 | .lp L a :: r=>Qyi (fun s'=>∃ b,L.H b∧L.μ b<L.μ a∧s'.le' (L.st b).fs) (QF c P Q r)
 | .jn J :: r=>Qyi (fun s'=>∃ b,J.H b∧s'.le' (J.st b).fs) (QF c P Q r)
 | .jmp l L m :: r=>jmpQ l (fun s'=>∃ b,L.H b∧ltO L m b∧s'.le' (L.st b).fs) (QF c P Q r)
 | .scp :: r=>Zck (QF c P Q r)
def popJ (l:Nat):List Fr→Option Fr
 | []=>none
 | .jmp l' L m :: _=>bif Nat.beq l' l then some (.jmp l' L m) else none
 | .scp :: _=>none
 | .k _ :: r=>popJ l r
 | .blk _ :: r=>popJ l r
 | .lp _ _ :: r=>popJ l r
 | .jn _ :: r=>popJ l r
theorem Qkj {c:Cx} {P:Program} {Q:Exit→FS→Prop} {s:FS} {l:Nat} {α:Type} {l':Nat} {L:Lp α} {m:Option α} (hq:∃ b,L.H b∧ltO L m b∧s.le' (L.st b).fs):∀ {fr:List Fr},popJ l fr=some (.jmp l' L m)→QF c P Q fr (.goto l) s
 | [],h=>by cases h
 | .k _ :: r,h=>Qkj (fr:=r) hq h
 | .blk _ :: r,h=>Qkj (fr:=r) hq h
 | .lp .. :: r,h=>Qkj (fr:=r) hq h
 | .jn .. :: r,h=>Qkj (fr:=r) hq h
 | .scp :: r,h=>by cases h
 | .jmp l2 L2 m2 :: r,h=>by
  simp only [popJ] at h;cases hb:Nat.beq l2 l with
  | true=>
   rw [hb] at h;simp only [cond_true,W0k,Fr.jmp.injEq] at h;obtain ⟨rfl,rfl,h2,h3⟩:=h;cases h2;cases h3;exact ⟨(W0q hb).symm,hq⟩
  | false=>rw [hb] at h;cases h
def popX (id:Nat):List Fr→Option (List Fr)
 | []=>none
 | .blk i :: r=>bif Nat.beq i id then some r else popX id r
 | _ :: r=>popX id r
theorem Qns {c:Cx} {P:Program} {Q:Exit→FS→Prop} {s:FS} (h:Q .ret s):∀ fr,QF c P Q fr .ret s
 | []=>h
 | .k _ :: r=>Qns h r
 | .blk _ :: r=>Qns h r
 | .lp .. :: r=>Qns h r
 | .jn .. :: r=>Qns h r
 | .jmp .. :: r=>Qns h r
 | .scp :: r=>Qns h r
theorem Qim {c:Cx} {P:Program} {Q:Exit→FS→Prop} {s:FS} {id:Nat}:∀ {fr fr':List Fr},popX id fr=some fr'→QF c P Q fr' .normal s→QF c P Q fr (.exit id) s
 | [],fr',h,_=>by cases h
 | .k _ :: r,fr',h,hq=>Qim (fr:=r) h hq
 | .lp .. :: r,fr',h,hq=>Qim (fr:=r) h hq
 | .jn .. :: r,fr',h,hq=>Qim (fr:=r) h hq
 | .jmp .. :: r,fr',h,hq=>Qim (fr:=r) h hq
 | .scp :: r,fr',h,hq=>Qim (fr:=r) h hq
 | .blk i :: r,fr',h,hq=>by
  simp only [popX] at h;show Qs9 i _ (.exit id) s;simp only [Qs9];cases hb:Nat.beq i id with
  | true=>
   rw [hb] at h;obtain rfl:=W0c h;obtain rfl:=W0q hb;rw [Nat.beq_refl];exact hq
  | false=>
   rw [hb] at h;have:Nat.beq id i=false:=nbeq fun e=>by rw [e,Nat.beq_refl] at hb;cases hb
   rw [this];exact Qim (fr:=r) h hq
def fzL (f:AV→List Prop × AV):List AV→List Prop × List AV
 | []=>([],[])
 | x :: r=>((f x).1++(fzL f r).1,(f x).2 :: (fzL f r).2)
def fzA (y:Bx) (id:Nat):Nat→AV→List Prop × AV
 | 0,_=>([],.any)
 | n+1,x=>
  match x with
  | .rw i V m=>bif Nat.beq i id then (match y with | .row V' _ k xs=>([V'=V,m=xs.length],.sl k false xs) | _=>([],.any)) else ([],x)
  | .ptr i b off=>bif Nat.beq i id then (match y with | .box b' _ cs=>([b'=b],.dptr (cs.drop off)) | _=>([],.any)) else ([],x)
  | .mref i r=>bif Nat.beq i id then (match y with | .mp r' es=>([r'=r],.mp es) | _=>([],.any)) else ([],x)
  | .agg cs=>((fzL (fzA y id n) cs).1,.agg (fzL (fzA y id n) cs).2)
  | .clo f cs=>((fzL (fzA y id n) cs).1,.clo f (fzL (fzA y id n) cs).2)
  | x=>([],x)
theorem Qxd {y:Bx} {f:AV→List Prop × AV} (hf:∀ x,allP (f x).1→FzS y x (f x).2):∀ cs,allP (fzL f cs).1→Qq5 y cs (fzL f cs).2
 | [],_=>trivial
 | x :: r,h=>⟨hf x (Qcz h).1,Qxd hf r (Qcz h).2⟩
theorem Qxe {y:Bx} {id:Nat}:∀ (n:Nat) (x:AV),allP (fzA y id n x).1→FzS y x (fzA y id n x).2
 | 0,x,_=>Fz.any _ _
 | n+1,x,h=>by
  unfold fzA at h ⊢
  split
  ·rename_i i V m;cases hb:Nat.beq i id with
   | false=>simp only [hb,cond_false];exact Fz.refl _ _
   | true=>
    simp only [hb,cond_true] at h ⊢;cases y with
    | row V' e k xs=>
     obtain ⟨h1,h2,_⟩:=h;subst h1;exact Fz.row _ _ _ _ _ _ h2
    | _=>exact Fz.any _ _
  ·rename_i i b off;cases hb:Nat.beq i id with
   | false=>simp only [hb,cond_false];exact Fz.refl _ _
   | true=>
    simp only [hb,cond_true] at h ⊢;cases y with
    | box b' T cs=>
     obtain ⟨h1,_⟩:=h;subst h1;exact Fz.ptr _ _ _ _ _
    | _=>exact Fz.any _ _
  ·rename_i i r;cases hb:Nat.beq i id with
   | false=>simp only [hb,cond_false];exact Fz.refl _ _
   | true=>
    simp only [hb,cond_true] at h ⊢;cases y with
    | mp r' es=>
     obtain ⟨h1,_⟩:=h;subst h1;exact Fz.mref _ _ _
    | _=>exact Fz.any _ _
  ·rename_i cs;exact Fz.aggs (Qxd (Qxe n) cs h)
  ·rename_i f cs;exact Fz.clo (Qxd (Qxe n) cs h)
  ·exact Fz.refl _ _
def fzTs (y:Bx) (id:Nat) (s:LS):List Nat→List Prop × List (Nat × AV)
 | []=>([],[])
 | t :: r=>((fzA y id 6 (lget s.tm t)).1++(fzTs y id s r).1,(t,(fzA y id 6 (lget s.tm t)).2) :: (fzTs y id s r).2)
def fzBx (y:Bx) (id:Nat):Bx→List Prop × Bx
 | .box b T cs=>((fzL (fzA y id 6) cs).1,.box b T (fzL (fzA y id 6) cs).2)
 | z=>([],z)
def fzBL (y:Bx) (id:Nat) (s:LS):List Nat→Option (List Prop × List (Nat × Bx))
 | []=>some ([],[])
 | i :: r=>
  match bget s.bx i,fzBL y id s r with
  | some z,some (ps,l)=>bif Nat.beq i id then none else some ((fzBx y id z).1++ps,(i,(fzBx y id z).2) :: l)
  | _,_=>none
theorem Zd0 {y:Bx} {id:Nat} {s:LS}:∀ ts,allP (fzTs y id s ts).1→fzT y s (fzTs y id s ts).2
 | [],_=>trivial
 | t :: r,h=>⟨Qxe 6 _ (Qcz h).1,Zd0 r (Qcz h).2⟩
theorem Zd1 {y:Bx} {id:Nat} {s:LS}:∀ {bs:List Nat} {ps:List Prop} {l:List (Nat × Bx)},fzBL y id s bs=some (ps,l)→allP ps→fzBs y id s l
 | [],ps,l,h,_=>by
  simp only [fzBL,W0k,W0s] at h;obtain ⟨rfl,rfl⟩:=h;trivial
 | i :: r,ps,l,h,hp=>by
  simp only [fzBL] at h
  split at h
  ·rename_i z qs m hz hr;cases hb:Nat.beq i id with
   | true=>rw [hb] at h;cases h
   | false=>
    rw [hb] at h;simp only [cond_false,W0k,W0s] at h;obtain ⟨rfl,rfl⟩:=h;obtain ⟨p1,p2⟩:=Qcz hp;refine ⟨⟨hb,z,hz,?_⟩,Zd1 hr p2⟩;cases z with
    | box b T cs=>exact .box b T cs _ (Qxd (Qxe 6) cs p1)
    | _=>exact .refl _
  ·cases h
def nmT (s:LS):List (Nat × AV)→List (Nat × AV)
 | []=>[]
 | (t,_) :: r=>(t,lget s.tm t) :: nmT s r
def nmB (s:LS):List (Nat × Bx)→Option (List (Nat × Bx))
 | []=>some []
 | (i,_) :: r=>
  match bget s.bx i,nmB s r with
  | some z,some l=>some ((i,z) :: l)
  | _,_=>none
def nmS (s t:LS):Option LS:=
 match nmB s t.bx with
 | some l=>some ⟨nmT s t.tm,l⟩
 | none=>none
theorem Qw3 {s:LS}:∀ {l:List (Nat × AV)} {t:Nat},t∈l.map Prod.fst→lget (nmT s l) t=lget s.tm t
 | (k,x) :: r,t,h=>by
  simp only [nmT,lget];cases hb:Nat.beq k t with
  | true=>obtain rfl:=W0q hb;rfl
  | false=>
   refine Qw3 (l:=r) ?_;rcases W0y.1 h with h | h
   ·simp only at h;rw [h,Nat.beq_refl] at hb;cases hb
   ·exact h
theorem Qx2 {s:LS}:∀ {l m:List (Nat × Bx)} {t:Nat},nmB s l=some m→t∈l.map Prod.fst→bget m t=bget s.bx t
 | (k,x) :: r,m,t,h,ht=>by
  simp only [nmB] at h
  split at h
  ·rename_i z l' hz hl;obtain rfl:=W0c h;simp only [bget];cases hb:Nat.beq k t with
   | true=>obtain rfl:=W0q hb;exact hz.symm
   | false=>
    refine Qx2 hl ?_;rcases W0y.1 ht with h | h
    ·simp only at h;rw [h,Nat.beq_refl] at hb;cases hb
    ·exact h
  ·cases h
theorem Zkb {s s0 t:LS} (ho:nmS s t=some s0):∀ {l:List (Nat × AV)},(∀ p∈l,p.1∈t.tm.map Prod.fst)→leT s0 l→leT s l
 | [],_,_=>trivial
 | (k,x) :: r,hm,h=>by
  refine ⟨?_,Zkb ho (fun p hp=>hm p (W11 _ hp)) h.2⟩;have h1:=h.1;unfold nmS at ho
  split at ho
  ·rename_i l hl;obtain rfl:=W0c ho;have e:=Qw3 (s:=s) (hm (k,x) (List.mem_cons_self ..));rw [← e];exact h1
  ·cases ho
theorem Zkd {s s0 t:LS} (ho:nmS s t=some s0):∀ {l:List (Nat × Bx)},(∀ p∈l,p.1∈t.bx.map Prod.fst)→leB s0 l→leB s l
 | [],_,_=>trivial
 | (k,x) :: r,hm,h=>by
  refine ⟨?_,Zkd ho (fun p hp=>hm p (W11 _ hp)) h.2⟩;have h1:=h.1;unfold nmS at ho
  split at ho
  ·rename_i l hl;obtain rfl:=W0c ho;have e:=Qx2 hl (hm (k,x) (List.mem_cons_self ..));rw [← e];exact h1
  ·cases ho
theorem Zc8 {s s0 t:LS} (ho:nmS s t=some s0) (h1:leT s0 t.tm) (h2:leB s0 t.bx):s.fs.le' t.fs:=
 LS.le (Zkb ho (fun p hp=>List.mem_map_of_mem hp) h1) (Zkd ho (fun p hp=>List.mem_map_of_mem hp) h2)
inductive Nx (P:Program):Type 1 where
 | no
 | yes
 | go (E:Prop) (k:Ct P) (m:Nat) (s:LS)
 | nat (k:Nat→Ct P) (f:Nat→LS)
 | vl (E:Prop) (k:Value→Ct P) (f:Value→LS)
 | bl (E:Prop) (xs:List (List AV)) (k:∀ b:Bool,(b=true→xs=[])→Ct P) (f:Bool→LS)
 | elm (β:Type) (E:Prop) (h:β→Prop) (k:∀ x,h x→Ct P) (f:β→LS)
 | br (E:Prop) (b:Bool) (k1:b=true→Ct P) (k2:b=false→Ct P) (s1 s2:LS)
 | ex (β:Type) (p:β→Prop) (k:∀ x,p x→Ct P) (s:LS)
 | fam (α:Type) (E:Prop) (k:α→Ct P) (m:Nat) (f:α→LS)
def nxP {P:Program} (G:Ct P→Nat→LS→Prop):Nx P→Prop
 | .no=>False
 | .yes=>True
 | .go E k m s=>E∧G k m s
 | .nat k f=>∀ b,G (k b) 1 (f b)
 | .vl E k f=>E∧∀ V,G (k V) 1 (f V)
 | .bl E xs k f=>E∧∀ b h,G (k b h) 1 (f b)
 | .elm β E h k f=>E∧∀ x hx,G (k x hx) 1 (f x)
 | .br E b k1 k2 s1 s2=>E∧(∀ h,G (k1 h) 0 s1)∧∀ h,G (k2 h) 0 s2
 | .ex β p k s=>∀ x hx,G (k x hx) 0 s
 | .fam α E k m f=>E∧∀ a,G (k a) m (f a)
def entB (P:Program) (f:FuncId):Bool:=
 match P.funcs[f]? with
 | some F => F.body.isSome && !(F.name == "runtime.NumGoroutine")
 | none=>false
theorem Qib {P:Program} {f:FuncId} (h:entB P f=true):∀ vs w,(callFunc f vs).run P w=.ok (.enter f vs) w:=fun vs w=>by
 unfold entB at h
 split at h
 ·rename_i F hF;simp only [W0r,Bool.not_eq_true'] at h;obtain ⟨h0,h2⟩:=h
  have h3 : F.name ≠ "runtime.NumGoroutine" := by simpa using h2
  have h1:F.body ≠ none:=fun e=>by rw [e] at h0;cases h0
  simp [callFunc,hF,h3,h1]
 ·cases h
def Qn7 {P:Program} (ct:Ct P) (s:LS):Nx P:=
 match ct with
 | .is (b:=b) (v:=v) t h k=>
  match lget s.tm t with
  | .val (.bool b')=>.go (b'=b) k 0 (s.put (some t) (.val (.bool v)))
  | _=>.no
 | .br t b k1 k2=>
  match lget s.tm t with
  | .val (.bool b')=>.br (b'=b) b k1 k2 (s.put (some t) (.val (.bool true))) (s.put (some t) (.val (.bool false)))
  | _=>.no
 | .val (x:=x) (y:=y) t h k=>.go (lget s.tm t=x) k 0 (s.put (some t) y)
 | .ex (β:=β) (p:=p) h c=>.ex β p c s
 | .no h=>.yes
 | _=>.no
def Qyl (P:Program) (ops:Array Oper) (i:Nat) (rest:List Nat) (ct:Ct P) (s:LS):Nx P:=
 match ct with
 | .run n ps hp k=>
  match runD P ops ((i :: rest).take n) s with
  | some (ps',s')=>.go (ps'=ps) k n s'
  | none=>.no
 | .new k=>
  match newO P ops s i with
  | some f=>.nat k f
  | none=>.no
 | .call (f:=g) (args:=as0) (r:=r) h k=>
  match Qk5 ops s i with
  | some (f,args,d)=>bif entB P f then .go ((f,args)=(g,as0)) k 1 (s.put d r) else .no
  | none=>.no
 | .callS (f:=g) (args0:=as0) (r:=r) hs h k=>
  match Qk5 ops s i with
  | some (f,args,d)=>bif entB P f then .go ((f,args)=(g,as0)) k 1 (s.put d r) else .no
  | none=>.no
 | .callRow (f:=g) (args0:=as0) (e:=e) (k:=k) (xs:=xs) hs hk h c=>
  match Qk5 ops s i with
  | some (f,args,some d)=>
   match bget s.bx d with
   | none=>bif entB P f then .vl ((f,args)=(g,as0)) c (fun V=>(s.put (some d) (.rw d V xs.length)).setB d (.row V e k xs)) else .no
   | some _=>.no
  | _=>.no
 | .idx (m:=m) (xs:=xs) (e:=e) j hm he k=>
  match idxO P ops s i with
  | some (xs',m',d)=>.go ((xs',m')=(xs,m)) k 1 (s.put d (.dptr e))
  | none=>.no
 | .idxM (β:=β) (m:=m) l f j hm hj c=>
  match idxO P ops s i with
  | some (xs',m',d)=>.elm β ((xs',m')=(l.map f,m)) (fun x=>l[j]?=some x) c fun x=>s.put d (.dptr (f x))
  | none=>.no
 | .slc kk tt xs l h m a b t' hlo hhi hmx hab hbn k=>
  match slcO P ops s i with
  | some (.sl kk' tt' xs',l',h',m',d)=>.go ((kk',tt',xs',l',h',m')=(kk,tt,xs,l,h,m)) k 1 (s.put d (.sl kk t' ((xs.take b).drop a)))
  | _=>.no
 | .slcS tx l h a b hlo hhi hab hbn k=>
  match slcO P ops s i with
  | some (.val (.string ⟨⟨tx'⟩⟩),l',h',none,d)=>.go ((tx',l',h')=(tx,l,h)) k 1 (s.put d (.val (.string ⟨⟨(tx.take b).drop a⟩⟩)))
  | _=>.no
 | .app bytes V xs ys h63 hby c=>
  match appO ops s i with
  | some (t,.rw id V' n,.sl k tt ys',some d)=>
   match bget s.bx id with
   | some (.row V'' e k' xs')=>bif Nat.beq k k'&&Qhz P t e k bytes then
     .vl ((V',V'',xs',ys')=(V,V,xs,ys)) c (fun V'=>(s.put (some d) (.rw id V' (xs.length+ys.length))).setB id (.row V' e k (xs++ys))) else .no
   | _=>.no
  | _=>.no
 | .appNew (x0:=x0) bytes kk xs ys hs h1 hk h63 hby c=>
  match appO ops s i with
  | some (t,x0',.sl k tt ys',some d)=>
   match Qk4 P t,bget s.bx d with
   | some e,none=>bif Nat.beq k kk&&Qhz P t e kk bytes then
     .vl ((x0',ys')=(x0,ys)) c (fun V'=>(s.put (some d) (.rw d V' (xs++ys).length)).setB d (.row V' e kk (xs++ys))) else .no
   | _,_=>.no
  | _=>.no
 | .appNone bytes k=>
  match appO ops s i with
  | some (t,.sl kk t0 xs,.sl k' tt [],d)=>
   match Qk4 P t with
   | some e=>bif Nat.beq k' kk&&Qhz P t e kk bytes then .go True k 1 (s.put d (.sl kk t0 xs)) else .no
   | none=>.no
  | _=>.no
 | .isNil xs c=>
  match nilO P ops s i with
  | some (k,tt,xs',d)=>.bl (xs'=xs) xs c fun b=>s.put (some d) (.val (.bool b))
  | none=>.no
 | .mk0 (m:=m) bytes cap hm hby h63 c=>
  match mkO ops s i with
  | some (t,m',d)=>
   match Qk4 P t,bget s.bx d with
   | some e,none=>
    match szP P e with
    | some k=>bif Qhz P t e k bytes then .vl (m'=m) c (fun V'=>(s.put (some d) (.rw d V' 0)).setB d (.row V' e k [])) else .no
    | none=>.no
   | _,_=>.no
  | none=>.no
 | .lit0 c=>
  match litO P ops s i with
  | some (e,k,d)=>
   match bget s.bx d with
   | none=>.vl True c fun V'=>(s.put (some d) (.rw d V' 0)).setB d (.row V' e k [])
   | some _=>.no
  | none=>.no
 | .litN c=>
  match litN P ops s i with
  | some (e,k,d,n,cs)=>
   match bget s.bx d with
   | none=>.vl True c fun V'=>(s.put (some d) (.rw d V' n)).setB d (.row V' e k (Qc7 k cs n))
   | some _=>.no
  | none=>.no
 | .mkMap c=>
  match mkM P ops s i with
  | some d=>.nat c fun r=>(s.put (some d) (.mref d r)).setB d (.mp r [])
  | none=>.no
 | .ins (kk:=kk) (es:=es) r hn k=>
  match insO P ops s i with
  | some (kt,id,r1,kk',x,none)=>
   match bget s.bx id with
   | some (.mp r2 es')=>bif (es'.all fun p=>Qb9 P kt p.1)&&Qb9 P kt kk' then .go ((r1,r2,kk',es')=(r,r,kk,es)) k 1 (s.setB id (.mp r2 (es'++[(kk',x)]))) else .no
   | _=>.no
  | _=>.no
 | .look (kk:=kk) (es:=es) (fd:=fd) hn k=>
  match lkO P ops s i with
  | some (kt,e,es',kk',ok,d)=>
   match (P.info? e).bind (·.zero) with
   | some zv=>bif (es'.all fun p=>Qb9 P kt p.1)&&Qb9 P kt kk' then .go ((kk',es')=(kk,es)) k 1 (s.put d (Qr9 ok (fdV fd zv) fd.isSome)) else .no
   | none=>.no
  | none=>.no
 | .eqS k=>
  match eqO P ops s i with
  | some (d,b)=>.go True k 1 (s.put (some d) (.val (.bool b)))
  | none=>.no
 | .binV (a:=a) (b:=b) (x:=x) op t h k=>
  match opAt ops s i with
  | some o=>
   match o.op with
   | .binOp op' t' xo yo _=>.go ((op',t',s.ev xo,s.ev yo)=(op,t,a,b)) k 1 (s.put o.dst x)
   | _=>.no
  | none=>.no
 | .byte (m:=m) (tx:=tx) j hm hj c=>
  match opAt ops s i with
  | some o=>
   match o.op with
   | .index t x n=>
    match P.underlying t,s.ev x,s.ev n with
    | some .string,.val (.string ⟨⟨tx'⟩⟩),.val (.int .i64 m')=>.elm UInt8 ((tx',m')=(tx,m)) (fun c=>tx[j]?=some c) c fun c=>s.put o.dst (.val (.int .u8 (c.toNat:Int)))
    | _,_,_=>.no
   | _=>.no
  | none=>.no
 | .op (α:=α) rd b upd h k=>.fam α (rd ops s i=some b) k 1 fun a=>upd a s
 | ct=>Qn7 ct s
def Zm5 (P:Program) (ct:Ct P) (s:LS):Nx P:=
 match ct with
 | .frz id ts bs ps hp k=>
  match bget s.bx id with
  | some y=>
   match fzBL y id s bs with
   | some (qs,l)=>.go ((fzTs y id s ts).1++qs=ps) k 0 ⟨(fzTs y id s ts).2,l⟩
   | none=>.no
  | none=>.no
 | .rowNil id t e k c=>
  match bget s.bx id,lget s.tm t with
  | none,.val (.slice none 0 0)=>.go True c 0 ((s.setB id (.row (.slice none 0 0) e k [])).put (some t) (.rw id (.slice none 0 0) 0))
  | _,_=>.no
 | .rowNilB id q j e k c=>
  match bget s.bx id,bget s.bx q with
  | none,some (.box b T cs)=>
   (match cs[j]? with
   | some (.val (.slice none 0 0))=>bif Nat.beq id q then .no else .go True c 0 ((s.setB id (.row (.slice none 0 0) e k [])).setB q (.box b T (cs.set j (.rw id (.slice none 0 0) 0))))
   | _=>.no)
  | _,_=>.no
 | .st (α:=α) rd b upd h k=>.fam α (rd s=some b) k 0 fun a=>upd a s
 | ct=>Qn7 ct s
theorem Qlz:∀ xs:List AV,Qc0 xs xs
 | []=>trivial
 | x :: r=>⟨Sub.refl x,Qlz r⟩
theorem Za7 {P:Program} {ops:Array Oper} {K:FS→Prop} {r:List Nat} {ct:Ct P} {s:LS} {G:Ct P→Nat→LS→Prop} (h:nxP G (Qn7 ct s))
  (hG:∀ k m s',G k m s'→SeqR P ops K (r.drop m) s'.fs):SeqR P ops K r s.fs:=by
 unfold Qn7 at h
 split at h
 ·rename_i t b v hv k
  split at h
  ·rename_i b' hb;obtain ⟨rfl,h⟩:=h;exact Qph t hv hb rfl (hG _ _ _ h)
  ·exact h.elim
 ·rename_i t b k1 k2
  split at h
  ·rename_i b' hb;obtain ⟨rfl,h1,h2⟩:=h;cases hc:b' with
   | true=>exact Qph t hc hb rfl (hG _ _ _ (h1 hc))
   | false=>exact Qph t hc hb rfl (hG _ _ _ (h2 hc))
  ·exact h.elim
 ·rename_i t x y hv k;obtain ⟨e,h⟩:=h;exact Zlf t hv e rfl (hG _ _ _ h)
 ·rename_i β p he c;obtain ⟨x,hx⟩:=he;exact hG _ _ _ (h x hx)
 ·rename_i hf;exact hf.elim
 ·exact h.elim
theorem Qk9 {P:Program} {ops:Array Oper} {K:FS→Prop} {i:Nat} {rest:List Nat} {ct:Ct P} {s:LS} {G:Ct P→Nat→LS→Prop} (h:nxP G (Qyl P ops i rest ct s))
  (hG:∀ k m s',G k m s'→SeqR P ops K ((i :: rest).drop m) s'.fs):SeqR P ops K (i :: rest) s.fs:=by
 unfold Qyl at h
 split at h
 ·rename_i n ps hp k
  split at h
  ·rename_i ps' s' hr;obtain ⟨rfl,h⟩:=h;have:=Zbh (r:=(i :: rest).drop n) _ hr hp (hG _ _ _ h)
   rwa [W1g] at this
  ·exact h.elim
 ·rename_i k
  split at h
  ·rename_i f hf;exact Zlh hf fun b=>hG _ _ _ (h b)
  ·exact h.elim
 ·rename_i g as0 r hs k
  split at h
  ·rename_i f args d hc;cases he:entB P f with
   | false=>rw [he] at h;exact h.elim
   | true=>
    rw [he] at h;obtain ⟨e,h⟩:=h;obtain ⟨rfl,rfl⟩:=Prod.mk.inj e;exact Qwf hc (Qib he) (Qlz _) hs rfl (hG _ _ _ h)
  ·exact h.elim
 ·rename_i g as0 as' r hsub hs k
  split at h
  ·rename_i f args d hc;cases he:entB P f with
   | false=>rw [he] at h;exact h.elim
   | true=>
    rw [he] at h;obtain ⟨e,h⟩:=h;obtain ⟨rfl,rfl⟩:=Prod.mk.inj e;exact Qwf hc (Qib he) hsub hs rfl (hG _ _ _ h)
  ·exact h.elim
 ·rename_i g as0 as' e k xs hsub hk hs c
  split at h
  ·rename_i f args d hc
   split at h
   ·rename_i hn;cases he:entB P f with
    | false=>rw [he] at h;exact h.elim
    | true=>
     rw [he] at h;obtain ⟨e',h⟩:=h;obtain ⟨rfl,rfl⟩:=Prod.mk.inj e';exact Qty hc (Qib he) hsub hk hs hn (fun _=>rfl) fun V=>hG _ _ _ (h V)
   ·exact h.elim
  ·exact h.elim
 ·rename_i j m xs e hm he k
  split at h
  ·rename_i xs' m' d hi;obtain ⟨e',h⟩:=h;obtain ⟨rfl,rfl⟩:=Prod.mk.inj e';exact Zbj j hi hm he rfl (hG _ _ _ h)
  ·exact h.elim
 ·rename_i β l f j m hm hj c
  split at h
  ·rename_i xs' m' d hi;obtain ⟨e',h⟩:=h;obtain ⟨rfl,rfl⟩:=Prod.mk.inj e';obtain ⟨x,hx⟩:=Qdk hj;exact Zbj j hi hm (map_some hx) rfl (hG _ _ _ (h x hx))
  ·exact h.elim
 ·rename_i kk tt xs l hh m a b t' hlo hhi hmx hab hbn k
  split at h
  ·rename_i kk' tt' xs' l' h' m' d hi;obtain ⟨e',h⟩:=h;simp only [W0s] at e';obtain ⟨rfl,rfl,rfl,rfl,rfl,rfl⟩:=e';exact Zlg a b t' hi hlo hhi hmx hab hbn rfl (hG _ _ _ h)
  ·exact h.elim
 ·rename_i tx l hh a b hlo hhi hab hbn k
  split at h
  ·rename_i tx' l' h' d hi;obtain ⟨e',h⟩:=h;simp only [W0s] at e';obtain ⟨rfl,rfl,rfl⟩:=e';exact Zgz a b hi hlo hhi hab hbn rfl (hG _ _ _ h)
  ·exact h.elim
 ·rename_i bytes V xs ys h63 hby c
  split at h
  ·rename_i t id V' n k tt ys' d hi
   split at h
   ·rename_i V'' e k' xs' hb;cases hc:(Nat.beq k k'&&Qhz P t e k bytes) with
    | false=>rw [hc] at h;exact h.elim
    | true=>
     rw [hc] at h;obtain ⟨e',h⟩:=h;simp only [W0s] at e';obtain ⟨rfl,rfl,rfl,rfl⟩:=e';simp only [W0r] at hc;obtain rfl:=W0q hc.1;exact Qys hi hb hc.2 h63 hby (fun _=>rfl) fun V=>hG _ _ _ (h V)
   ·exact h.elim
  ·exact h.elim
 ·rename_i bytes kk x0 xs ys hs h1 hk h63 hby c
  split at h
  ·rename_i t x0' k tt ys' d hi
   split at h
   ·rename_i e he hn;cases hc:(Nat.beq k kk&&Qhz P t e kk bytes) with
    | false=>rw [hc] at h;exact h.elim
    | true=>
     rw [hc] at h;obtain ⟨e',h⟩:=h;simp only [W0s] at e';obtain ⟨rfl,rfl⟩:=e';simp only [W0r] at hc;obtain rfl:=W0q hc.1;exact Qpi hi hs hn h1 hk hc.2 h63 hby (fun _=>rfl) fun V=>hG _ _ _ (h V)
   ·exact h.elim
  ·exact h.elim
 ·rename_i bytes k
  split at h
  ·rename_i t kk t0 xs k' tt d hi
   split at h
   ·rename_i e he;cases hc:(Nat.beq k' kk&&Qhz P t e kk bytes) with
    | false=>rw [hc] at h;exact h.elim
    | true=>
     rw [hc] at h;simp only [W0r] at hc;obtain rfl:=W0q hc.1;exact Qnt hi hc.2 rfl (hG _ _ _ h.2)
   ·exact h.elim
  ·exact h.elim
 ·rename_i xs c
  split at h
  ·rename_i k tt xs' d hi;obtain ⟨rfl,h⟩:=h;exact seqNil hi (fun _=>rfl) fun b hb=>hG _ _ _ (h b hb)
  ·exact h.elim
 ·rename_i bytes cap m hm hby h63 c
  split at h
  ·rename_i t m' d hi
   split at h
   ·rename_i e he hn
    split at h
    ·rename_i k hk;cases hc:Qhz P t e k bytes with
     | false=>rw [hc] at h;exact h.elim
     | true=>
      rw [hc] at h;obtain ⟨rfl,h⟩:=h;exact Zli hi hm hn hc hby h63 (fun _=>rfl) fun V=>hG _ _ _ (h V)
    ·exact h.elim
   ·exact h.elim
  ·exact h.elim
 ·rename_i c
  split at h
  ·rename_i e k d hi
   split at h
   ·rename_i hn;exact Zll hi hn (fun _=>rfl) fun V=>hG _ _ _ (h.2 V)
   ·exact h.elim
  ·exact h.elim
 ·rename_i c
  split at h
  ·rename_i e k d n cs hi
   split at h
   ·rename_i hn;exact Zlk hi hn (fun _=>rfl) fun V=>hG _ _ _ (h.2 V)
   ·exact h.elim
  ·exact h.elim
 ·rename_i c
  split at h
  ·rename_i d hi;exact Zg2 hi (fun _=>rfl) fun V=>hG _ _ _ (h V)
  ·exact h.elim
 ·rename_i r kk es hn k
  split at h
  ·rename_i kt id r1 kk' x hi
   split at h
   ·rename_i r2 es' hb;cases hc:((es'.all fun p=>Qb9 P kt p.1)&&Qb9 P kt kk') with
    | false=>rw [hc] at h;exact h.elim
    | true=>
     rw [hc] at h;obtain ⟨e',h⟩:=h;simp only [W0s] at e';obtain ⟨rfl,h2,rfl,rfl⟩:=e';simp only [W0r] at hc;exact Zj2 hi hb h2 hc.1 hc.2 hn rfl (hG _ _ _ h)
   ·exact h.elim
  ·exact h.elim
 ·rename_i kk es fd hn k
  split at h
  ·rename_i kt e es' kk' ok d hi
   split at h
   ·rename_i zv hz;cases hc:((es'.all fun p=>Qb9 P kt p.1)&&Qb9 P kt kk') with
    | false=>rw [hc] at h;exact h.elim
    | true=>
     rw [hc] at h;obtain ⟨e',h⟩:=h;simp only [W0s] at e';obtain ⟨rfl,rfl⟩:=e';simp only [W0r] at hc;exact Zlj fd zv hi hc.1 hc.2 hz hn rfl (hG _ _ _ h)
   ·exact h.elim
  ·exact h.elim
 ·rename_i k
  split at h
  ·rename_i d b hi;exact seqEqS hi rfl (hG _ _ _ h.2)
  ·exact h.elim
 ·rename_i op t a b x hv k
  split at h
  ·rename_i o ho
   split at h
   ·rename_i op' t' xo yo ty hop;obtain ⟨e',h⟩:=h;simp only [W0s] at e';obtain ⟨rfl,rfl,rfl,rfl⟩:=e';obtain ⟨hi,hg⟩:=Qbl ho;refine ⟨o,hi,.inr ⟨hg,.inl ⟨x,.inl fun D w ρ hops=>?_,by rw [LS.fs_put];exact hG _ _ _ h⟩⟩⟩;obtain ⟨r,h1,h2⟩:=hv D w xo yo _ _ (Qa2 hops xo (by simp [hop,Op.operands])) (Qa2 hops yo (by simp [hop,Op.operands]));refine ⟨r,?_,h2⟩;simp only [execOp,hop,Sem.run_bind] at h1 ⊢;simp [h1]
   ·exact h.elim
  ·exact h.elim
 ·rename_i j m tx hm hj c
  split at h
  ·rename_i o ho
   split at h
   ·rename_i t x n hop
    split at h
    ·rename_i tx' m' hu hx hn;obtain ⟨e',h⟩:=h;simp only [W0s] at e';obtain ⟨rfl,rfl⟩:=e';obtain ⟨b,hb⟩:=Qdk hj;exact Zg1 (d:=none) j b ho hop hu hx hn hm hb rfl (hG _ _ _ (h b hb))
    ·exact h.elim
   ·exact h.elim
  ·exact h.elim
 ·rename_i rd b upd hh k;exact hh ops i s K rest h.1 fun a=>hG _ _ _ (h.2 a)
 ·exact Za7 h hG
theorem Qym {P:Program} {c:Cx} {code:Code} {Q:Exit→FS→Prop} {ct:Ct P} {s:LS} {G:Ct P→Nat→LS→Prop} (h:nxP G (Qn7 ct s))
  (hG:∀ k m s',G k m s'→AWp c P code Q s'.fs):AWp c P code Q s.fs:=by
 unfold Qn7 at h
 split at h
 ·rename_i t b v hv k
  split at h
  ·rename_i b' hb;obtain ⟨rfl,h⟩:=h;exact Qqx t hv hb rfl (hG _ _ _ h)
  ·exact h.elim
 ·rename_i t b k1 k2
  split at h
  ·rename_i b' hb;obtain ⟨rfl,h1,h2⟩:=h;cases hc:b' with
   | true=>exact Qqx t hc hb rfl (hG _ _ _ (h1 hc))
   | false=>exact Qqx t hc hb rfl (hG _ _ _ (h2 hc))
  ·exact h.elim
 ·rename_i t x y hv k;obtain ⟨e,h⟩:=h;refine AWp.weaken (s':=(s.put (some t) y).fs) ⟨fun u=>?_,fun id y' hy=>⟨y',hy,.refl _⟩⟩ (hG _ _ _ h);subst hv;rw [← LS.fs_put];simp only [FS.put,LS.fs]
  split
  ·rename_i hu;rw [hu,e];exact sR
  ·exact sR
 ·rename_i β p he c;obtain ⟨x,hx⟩:=he;exact hG _ _ _ (h x hx)
 ·rename_i hf;exact hf.elim
 ·exact h.elim
theorem Zja {P:Program} {c:Cx} {code:Code} {Q:Exit→FS→Prop} {ct:Ct P} {s:LS} {G:Ct P→Nat→LS→Prop} (h:nxP G (Zm5 P ct s))
  (hG:∀ k m s',G k m s'→AWp c P code Q s'.fs):AWp c P code Q s.fs:=by
 unfold Zm5 at h
 split at h
 ·rename_i id ts bs ps hp k
  split at h
  ·rename_i y hy
   split at h
   ·rename_i qs l hl;obtain ⟨rfl,h⟩:=h;obtain ⟨h1,h2⟩:=Qcz hp;exact Zaf id y _ hy (Zd0 ts h1) (Zd1 hl h2) (hG _ _ _ h)
   ·exact h.elim
  ·exact h.elim
 ·rename_i id t e k cc
  split at h
  ·rename_i hn ht;refine Qpb id e k hn rfl (AWp.weaken (s':=((s.setB id (.row (.slice none 0 0) e k [])).put (some t) (.rw id (.slice none 0 0) 0)).fs) ⟨fun u=>?_,fun i y' hy=>⟨y',hy,.refl _⟩⟩ (hG _ _ _ h.2));rw [← LS.fs_put];simp only [FS.put,LS.fs,LS.setB]
   split
   ·rename_i hu;rw [hu,ht];exact Sub.rwnil _
   ·exact sR
  ·exact h.elim
 ·rename_i id q j e k cc
  split at h
  ·rename_i b T cs hn hq
   split at h
   ·rename_i hj;cases hb:Nat.beq id q with
    | true=>rw [hb] at h;exact h.elim
    | false=>
     rw [hb] at h;refine Qpb id e k hn rfl (AWp.weaken (s':=((s.setB id (.row (.slice none 0 0) e k [])).setB q (.box b T (cs.set j (.rw id (.slice none 0 0) 0)))).fs) ⟨fun u=>sR,fun i y' hy=>?_⟩ (hG _ _ _ h.2));simp only [LS.fs,LS.setB,Qtb] at hy ⊢
     split at hy
     ·rename_i hi;obtain rfl:=W0c hy;subst hi;have hne:¬ i=id:=fun e=>by rw [e,Nat.beq_refl] at hb;cases hb
      rw [W1w hne];refine ⟨_,hq,.box b T _ _ (by simp) (fun u x y hx hy'=>?_)⟩;rw [List.getElem?_set] at hy'
      split at hy'
      ·rename_i hju;subst hju
       split at hy'
       ·rw [hj] at hx;obtain rfl:=W0c hx;obtain rfl:=W0c hy';exact Sub.rwnil _
       ·cases hy'
      ·rw [hx] at hy';obtain rfl:=W0c hy';exact sR
     ·exact ⟨y',hy,.refl _⟩
   ·exact h.elim
  ·exact h.elim
 ·rename_i rd b upd hh k;exact hh c Q code s h.1 fun a=>hG _ _ _ (h.2 a)
 ·exact Qym h hG
inductive Fo where
 | code (c:Code)
 | nrm
 | reg (ops:Array Oper) (ord:List Nat)
 | regA (ops:Array Oper) (pre:List Nat) (a b:List Nat)
 | regD (ops:Array Oper) (l:Array Bool) (f:Nat)
 | regS (ops:Array Oper) (is:List Nat) (l:Array Bool) (f:Nat)
 | regB (ops:Array Oper) (l:Array Bool) (rs:List Nat) (f:Nat)
 | regL (ops:Array Oper) (pre:List Nat) (j:Nat) (post:List Nat)
def Zdh {P:Program}:Ct P→Bool
 | .is .. => true
 | .br .. => true
 | .val .. => true
 | .ex .. => true
 | .no .. => true
 | .frz .. => true
 | .rowNil .. => true
 | .rowNilB .. => true
 | .st .. => true
 | _=>false
def isVia {P:Program}:Ct P→Bool
 | .via .. => true
 | _=>false
def Zkf {P:Program}:Ct P→Bool
 | .into .. => true
 | _=>false
def compC:Code→Bool
 | .seq .. => true
 | .block .. => true
 | .scope .. => true
 | _=>false
def intoV {P:Program} (x:Code) (ct:Ct P) (G:Ct P→Code→Fr→Prop):Prop:=
 match ct,x with
 | .into k,.seq a b=>G k a (.k b)
 | .into k,.block id a=>G k a (.blk id)
 | .into k,.scope a=>G k a .scp
 | _,_=>False
def viaV (P:Program) (F:Func) (x:Code) (ct:Ct P) (s:LS) (G:Ct P→Code→LS→Prop):Prop:=
 match ct with
 | .via (α:=α) nt code rest rd b upd h k=>(F.ntmps,x,rd s)=(nt,code,some b)∧∀ a,G (k a) rest (upd a s)
 | _=>False
inductive RG where
 | val (r:AV)
 | row (e k:Nat) (xs:List (List AV))
 | valB (r:AV) (q:Nat) (y:Bx)
 | valBs (r:AV) (ys:Value→List (Nat × Bx))
def Zjh (s:LS):List (Nat × Bx)→Option (List (Nat × Bx))
 | []=>some []
 | (i,_) :: r=>
  match bget s.bx i,Zjh s r with
  | some z,some l=>some ((i,z) :: l)
  | _,_=>none
theorem Qx1 {s:LS}:∀ {ys l:List (Nat × Bx)},Zjh s ys=some l→∀ p∈l,s.fs.bx p.1=some p.2
 | [],l,h,p,hp=>by obtain rfl:=W0c h;cases hp
 | (i,y) :: r,l,h,p,hp=>by
  simp only [Zjh] at h
  split at h
  ·rename_i z l' hz hl;obtain rfl:=W0c h;rcases W0y.1 hp with rfl | hp
   ·exact hz
   ·exact Qx1 hl p hp
  ·cases h
def DoneG (P:Program) (F:Func):RG→FS→Prop
 | .val r,s=>Qv5 P F r s
 | .row e k xs,s=>∃ ps q V n,Qh1 P s F.results.toList=some (ps,[.rw q V n])∧allP ps∧s.bx q=some (.row V e k xs)
 | .valB r q y,s=>Qv5 P F r s∧s.bx q=some y
 | .valBs r ys,s=>Qv5 P F r s∧∃ V,∀ p∈ys V,s.bx p.1=some p.2
def FinG (P:Program) (F:Func) (g:RG) (e:Exit) (s:FS):Prop:=(e=.normal∨e=.ret)∧DoneG P F g s
def finV (P:Program) (F:Func) (g:RG) (ct:Ct P) (s:LS):Prop:=
 match g,ct with
 | .val r,.fin (x:=x) (r:=r') ps hp h=>
  (match Qh1 P s.fs F.results.toList with
  | some (ps',xs)=>(ps',Zha xs,r)=(ps,x,r')
  | none=>False)
 | .row e k xs,.finRow (x:=x) (r:=r') ps hp q e0 k0 n V h=>
  (match Qh1 P s.fs F.results.toList,bget s.bx q with
  | some (ps',[.rw q' V' n']),some (.row V2 e2 k2 xs2)=>(ps',q',V',n',V2,e2,k2,xs2,e,k,xs)=(ps,q,V,n,V,e0,k0,x,e0,k0,r')
  | _,_=>False)
 | .valB r q y,.finB (x:=x) (r:=r') ps hp y0 h=>
  (match Qh1 P s.fs F.results.toList,bget s.bx q with
  | some (ps',xs),some y'=>(ps',Zha xs,r,y',y)=(ps,x,r',y0,y0)
  | _,_=>False)
 | .valBs r ys,.finBs (x:=x) (r:=r') ps hp V y0 h=>
  (match Qh1 P s.fs F.results.toList,Zjh s (ys V) with
  | some (ps',xs),some l=>(ps',Zha xs,r,l,ys V)=(ps,x,r',y0,y0)
  | _,_=>False)
 | _,_=>False
theorem Zd8 {P:Program} {F:Func} {g:RG} {ct:Ct P} {s:LS} (h:finV P F g ct s):DoneG P F g s.fs:=by
 unfold finV at h
 split at h
 ·rename_i r ps hp x r' hs
  split at h
  ·rename_i ps' xs hr;simp only [W0s] at h;obtain ⟨rfl,rfl,rfl⟩:=h;exact ⟨_,_,hr,hp,hs⟩
  ·exact h.elim
 ·rename_i e k xs ps hp q e0 k0 n V x r' hx
  split at h
  ·rename_i ps' q' V' n' V2 e2 k2 xs2 hr hb;simp only [W0s] at h;obtain ⟨rfl,rfl,rfl,rfl,rfl,rfl,rfl,rfl,rfl,rfl,rfl⟩:=h;subst hx;exact ⟨_,_,_,_,hr,hp,hb⟩
  ·exact h.elim
 ·rename_i r q y ps hp x r' y0 hs
  split at h
  ·rename_i ps' xs y' hr hb;simp only [W0s] at h;obtain ⟨rfl,rfl,rfl,rfl,rfl⟩:=h;exact ⟨⟨_,_,hr,hp,hs⟩,hb⟩
  ·exact h.elim
 ·rename_i r ys ps hp x r' V y0 hs
  split at h
  ·rename_i ps' xs l hr hb;simp only [W0s] at h;obtain ⟨rfl,rfl,rfl,e1,e2⟩:=h;subst e1;exact ⟨⟨_,_,hr,hp,hs⟩,V,by rw [e2];exact Qx1 hb⟩
  ·exact h.elim
 ·exact h.elim
def Zmm {P:Program} (f:Option Fr) (ct:Ct P) (s:LS):Prop:=
 match f,ct with
 | some (.jmp l L none),.back0 L' b hH s0 h1 h2=>Fr.jmp 0 L none=Fr.jmp 0 L' none∧nmS s (L'.st b)=some s0
 | some (.jmp l L (some a)),.back L' a' b hH hμ s0 h1 h2=>Fr.lp L a=Fr.lp L' a'∧nmS s (L'.st b)=some s0
 | _,_=>False
theorem Zia {c:Cx} {P:Program} {Q:Exit→FS→Prop} {l:Nat} {fr:List Fr} {ct:Ct P} {s:LS} (h:Zmm (popJ l fr) ct s):QF c P Q fr (.goto l) s.fs:=by
 unfold Zmm at h
 split at h
 ·rename_i l' L _ L' b hH s0 h1 h2 hp;obtain ⟨e,ho⟩:=h;cases e;exact Qkj (m:=none) ⟨b,hH,trivial,Zc8 ho h1 h2⟩ hp
 ·rename_i l' L a _ L' a' b hH hμ s0 h1 h2 hp;obtain ⟨e,ho⟩:=h;cases e;exact Qkj (m:=some a) ⟨b,hH,hμ,Zc8 ho h1 h2⟩ hp
 ·exact h.elim
def vc (P:Program) (F:Func) (r:RG):Nat→Ct P→Fo→List Fr→LS→Prop
 | 0,_,_,_,_=>False
 | n+1,ct,.nrm,fr,s=>
  match fr with
  | []=>finV P F r ct s
  | .k y :: fr'=>vc P F r n ct (.code y) fr' s
  | .blk _ :: fr'=>vc P F r n ct .nrm fr' s
  | .scp :: fr'=>vc P F r n ct .nrm fr' s
  | .jmp .. :: fr'=>vc P F r n ct .nrm fr' s
  | .lp L a :: _=>
   (match ct with
   | .back L' a' b hH hμ s0 h1 h2=>Fr.lp L a=Fr.lp L' a'∧nmS s (L'.st b)=some s0
   | _=>False)
  | .jn J :: _=>
   (match ct with
   | .join J' b hH s0 h1 h2=>Fr.jn J=Fr.jn J'∧nmS s (J'.st b)=some s0
   | _=>False)
 | n+1,ct,.reg ops ord,fr,s=>
  match ord with
  | []=>vc P F r n ct .nrm fr s
  | i :: rest=>nxP (fun k m s'=>vc P F r n k (.reg ops ((i :: rest).drop m)) fr s') (Qyl P ops i rest ct s)
 | n+1,ct,.regA ops pre a b,fr,s=>
  match pre with
  | []=>
   (match ct with
   | .alt k1 k2=>vc P F r n k1 (.reg ops a) fr s∧vc P F r n k2 (.reg ops b) fr s
   | _=>False)
  | i :: rest=>nxP (fun k m s'=>vc P F r n k (.regA ops ((i :: rest).drop m) a b) fr s') (Qyl P ops i rest ct s)
 | n+1,ct,.regD ops l f,fr,s=>
  (match ct,f with
  | .pick is k,f=>bif Quh P ops is l&&Nat.ble is.length f then vc P F r n k (.regS ops is (aft is l) (f-is.length)) fr s else False
  | .fork k,f'+1=>bif (Region.ready .any ops l).isEmpty then False else vc P F r n k (.regB ops l (Region.ready .any ops l) f') fr s
  | .fork _,0=>False
  | ct,_=>bif (Region.ready .any ops l).isEmpty then vc P F r n ct .nrm fr s else False)
 | n+1,ct,.regS ops is l f,fr,s=>
  match is with
  | []=>vc P F r n ct (.regD ops l f) fr s
  | i :: rest=>nxP (fun k m s'=>vc P F r n k (.regS ops ((i :: rest).drop m) l f) fr s') (Qyl P ops i rest ct s)
 | n+1,ct,.regB ops l rs f,fr,s=>
  match rs with
  | []=>False
  | [i]=>vc P F r n ct (.regS ops [i] (l.setIfInBounds i true) f) fr s
  | i :: j :: rest=>
   (match ct with
   | .alt k1 k2=>vc P F r n k1 (.regS ops [i] (l.setIfInBounds i true) f) fr s∧vc P F r n k2 (.regB ops l (j :: rest) f) fr s
   | _=>False)
 | n+1,ct,.regL ops pre j post,fr,s=>
  match pre with
  | []=>
   (match ct with
   | .lop (α:=α) rd b upd h k=>rd ops s j=some b∧∀ a,vc P F r n (k a) (.reg ops post) fr (upd a s)
   | _=>False)
  | i :: rest=>nxP (fun k m s'=>vc P F r n k (.regL ops ((i :: rest).drop m) j post) fr s') (Qyl P ops i rest ct s)
 | n+1,ct,.code c,fr,s=>
  bif Zdh ct then nxP (fun k m s'=>vc P F r n k (.code c) fr s') (Zm5 P ct s) else
  bif isVia ct then viaV P F c ct s (fun k y s'=>vc P F r n k (.code y) fr s') else
  bif Zkf ct&&compC c then intoV c ct (fun k y f=>vc P F r n k (.code y) (f :: fr) s) else
  match c with
  | .skip=>vc P F r n ct .nrm fr s
  | .label _=>vc P F r n ct .nrm fr s
  | .seq x y=>
   (match ct with
   | .cut J k cc=>vc P F r n k (.code x) (.jn J :: fr) s∧∀ a h,vc P F r n (cc a h) (.code y) fr (J.st a)
   | ct=>vc P F r n ct (.code x) (.k y :: fr) s)
  | .block id x=>vc P F r n ct (.code x) (.blk id :: fr) s
  | .scope x=>
   (match ct with
   | .jump l L k cc=>
    (match findLabel x l with
    | some rest=>vc P F r n k (.code x) (.jmp l L none :: fr) s∧∀ a h,vc P F r n (cc a h) (.code rest) (.jmp l L (some a) :: fr) (L.st a)
    | none=>False)
   | ct=>vc P F r n ct (.code x) (.scp :: fr) s)
  | .goto l=>Zmm (popJ l fr) ct s
  | .exit id=>
   (match popX id fr with
   | some fr'=>vc P F r n ct .nrm fr' s
   | none=>False)
  | .ret=>finV P F r ct s
  | .cond (.tmp t) x y=>
   (match lget s.tm t with
   | .val (.bool true)=>bif Nat.blt t F.ntmps then vc P F r n ct (.code x) fr s else False
   | .val (.bool false)=>bif Nat.blt t F.ntmps then vc P F r n ct (.code y) fr s else False
   | _=>False)
  | .region _ ops false=>
   (match ct with
   | .lent j k=>bif Qbv F.ntmps ops&&(List.range ops.size==List.range j++j :: (List.range ops.size).drop (j+1)) then vc P F r n k (.regL ops (List.range j) j ((List.range ops.size).drop (j+1))) fr s else False
   | ct=>bif Qbv F.ntmps ops then vc P F r n ct (.reg ops (List.range ops.size)) fr s else False)
  | .region _ ops true=>
   (match ct with
   | .ordA pre [a,b] k=>bif Qbv F.ntmps ops&&(Quh P ops pre (Array.replicate ops.size false)&&(Zhu P ops (aft pre (Array.replicate ops.size false)) (a.length-1) [a,b]&&pre.length+(a.length-1)+1==ops.size)) then vc P F r n k (.regA ops pre a b) fr s else False
   | .pick is k=>bif Qbv F.ntmps ops then vc P F r n (.pick is k) (.regD ops (Array.replicate ops.size false) ops.size) fr s else False
   | .fork k=>bif Qbv F.ntmps ops then vc P F r n (.fork k) (.regD ops (Array.replicate ops.size false) ops.size) fr s else False
   | .ord l k=>bif Qbv F.ntmps ops&&(Qoj P ops l (Array.replicate ops.size false)&&l.length==ops.size) then vc P F r n k (.reg ops l) fr s else False
   | _=>False)
  | .loop x=>
   (match ct with
   | .loop L a0 hH s0 h1 h2 cc=>nmS s (L.st a0)=some s0∧∀ a h,vc P F r n (cc a h) (.code x) (.lp L a :: fr) (L.st a)
   | _=>False)
  | _=>False
def OkFn (c:Cx) (P:Program) (F:Func) (r:RG):Fo→List Fr→LS→Prop
 | .nrm,fr,s=>QF c P (FinG P F r) fr .normal s.fs
 | .code x,fr,s=>AWp c P x (QF c P (FinG P F r) fr) s.fs
 | .reg ops ord,fr,s=>SeqR P ops (QF c P (FinG P F r) fr .normal) ord s.fs
 | .regA ops pre a b,fr,s=>SeqR P ops (fun s'=>SeqR P ops (QF c P (FinG P F r) fr .normal) a s'∧SeqR P ops (QF c P (FinG P F r) fr .normal) b s') pre s.fs
 | .regD ops l f,fr,s=>aAny P ops (QF c P (FinG P F r) fr .normal) f l s.fs
 | .regS ops is l f,fr,s=>SeqR P ops (aAny P ops (QF c P (FinG P F r) fr .normal) f l) is s.fs
 | .regL ops pre j post,fr,s=>SeqR P ops (fun s'=>Qtk P ops j s' (SeqR P ops (QF c P (FinG P F r) fr .normal) post)) pre s.fs
 | .regB ops l rs f,fr,s=>∀ i∈rs,Qf9 P ops i s.fs (aAny P ops (QF c P (FinG P F r) fr .normal) f (l.setIfInBounds i true))
theorem Qtl {P:Program} {ops:Array Oper} {K K':FS→Prop} (h:∀ s,K s→K' s):∀ (r:List Nat) (s:FS),SeqR P ops K r s→SeqR P ops K' r s
 | [],s,hs=>h s hs
 | i :: r,s,hs=>Qf9.mono hs fun s' h'=>Qtl h r s' h'
theorem Qeg {c:Cx} {P:Program} {Q:Exit→FS→Prop} {s:FS} {id:Nat} {ops:Array Oper} (hm:P.follows .mixedOrders=true) (hs:Qbv c.n ops=true) (h:aAny P ops (Q .normal) ops.size (Array.replicate ops.size false) s):AWp c P (.region id ops true) Q s:=fun a w hr=>by
 refine wp_region_any hm ?_;exact Qki (K:=Q .normal) hs (fun s a w hk hr=>⟨s,hk,hr⟩) _ _ s a _ h hr.drawn
theorem Qay {c:Cx} {P:Program} {F:Func} {r:RG} (hn:c.n=F.ntmps) (hm:P.follows .mixedOrders=true):∀ (n:Nat) (ct:Ct P) (fo:Fo) (fr:List Fr) (s:LS),vc P F r n ct fo fr s→OkFn c P F r fo fr s
 | 0,_,_,_,_,h=>h.elim
 | n+1,ct,.nrm,fr,s,h=>by
  match fr,h with
  | [],h=>exact ⟨.inl rfl,Zd8 h⟩
  | .k y :: fr',h=>exact Qay hn hm n ct (.code y) fr' s h
  | .blk _ :: fr',h=>exact Qay hn hm n ct .nrm fr' s h
  | .scp :: fr',h=>exact Qay hn hm n ct .nrm fr' s h
  | .jmp .. :: fr',h=>exact Qay hn hm n ct .nrm fr' s h
  | .lp L a :: fr',h=>
   simp only [vc] at h
   split at h
   ·rename_i L' a' b hH hμ s0 h1 h2 _;obtain ⟨e,ho⟩:=h;cases e;exact ⟨b,hH,hμ,Zc8 ho h1 h2⟩
   ·exact h.elim
  | .jn J :: fr',h=>
   simp only [vc] at h
   split at h
   ·rename_i J' b hH s0 h1 h2 _;obtain ⟨e,ho⟩:=h;cases e;exact ⟨b,hH,Zc8 ho h1 h2⟩
   ·exact h.elim
 | n+1,ct,.reg ops ord,fr,s,h=>by
  match ord,h with
  | [],h=>exact Qay hn hm n ct .nrm fr s h
  | i :: rest,h=>exact Qk9 (G:=fun k m s'=>vc P F r n k (.reg ops ((i :: rest).drop m)) fr s') h fun k m s' hk=>Qay hn hm n k (.reg ops ((i :: rest).drop m)) fr s' hk
 | n+1,ct,.regA ops pre a b,fr,s,h=>by
  match pre,h with
  | [],h=>
   simp only [vc] at h
   split at h
   ·rename_i k1 k2 _;exact ⟨Qay hn hm n k1 (.reg ops a) fr s h.1,Qay hn hm n k2 (.reg ops b) fr s h.2⟩
   ·exact h.elim
  | i :: rest,h=>exact Qk9 (G:=fun k m s'=>vc P F r n k (.regA ops ((i :: rest).drop m) a b) fr s') h fun k m s' hk=>Qay hn hm n k (.regA ops ((i :: rest).drop m) a b) fr s' hk
 | n+1,ct,.regD ops l f,fr,s,h=>by
  have hend:∀ ct,(bif (Region.ready .any ops l).isEmpty then vc P F r n ct .nrm fr s else False)→aAny P ops (QF c P (FinG P F r) fr .normal) f l s.fs:=fun ct h=>by
   cases he:(Region.ready .any ops l).isEmpty with
   | false=>rw [he] at h;exact h.elim
   | true=>
    rw [he] at h;have hv:=Qay hn hm n ct .nrm fr s h;have he':Region.ready .any ops l=[]:=by simpa using he
    cases f with
    | zero=>exact ⟨he',hv⟩
    | succ f=>exact ⟨fun _=>hv,fun i hi=>by rw [he'] at hi;cases hi⟩
  show aAny P ops (QF c P (FinG P F r) fr .normal) f l s.fs;simp only [vc] at h
  split at h
  ·rename_i is k;cases hl:(Quh P ops is l&&Nat.ble is.length f) with
   | false=>rw [hl] at h;exact h.elim
   | true=>
    rw [hl] at h;rw [W0r] at hl;have hle:=W05 hl.2;have hv:=Qi3 (f:=f-is.length) is l s.fs hl.1 (Qay hn hm n k (.regS ops is (aft is l) (f-is.length)) fr s h);rw [show is.length+(f-is.length)=f from by omega] at hv;exact hv
  ·rename_i k f';cases he:(Region.ready .any ops l).isEmpty with
   | true=>rw [he] at h;exact h.elim
   | false=>
    rw [he] at h;exact ⟨fun h0=>(by rw [h0] at he;cases he),fun i hi=>Qay hn hm n k (.regB ops l (Region.ready .any ops l) f') fr s h i hi⟩
  ·exact h.elim
  ·exact hend _ h
 | n+1,ct,.regS ops is l f,fr,s,h=>by
  match is,h with
  | [],h=>exact Qay hn hm n ct (.regD ops l f) fr s h
  | i :: rest,h=>exact Qk9 (G:=fun k m s'=>vc P F r n k (.regS ops ((i :: rest).drop m) l f) fr s') h fun k m s' hk=>Qay hn hm n k (.regS ops ((i :: rest).drop m) l f) fr s' hk
 | n+1,ct,.regB ops l rs f,fr,s,h=>by
  match rs,h with
  | [i],h=>
   intro j hj;obtain rfl:=W0z.1 hj;have hv:SeqR P ops (aAny P ops (QF c P (FinG P F r) fr .normal) f (l.setIfInBounds j true)) [j] s.fs:=Qay hn hm n ct (.regS ops [j] (l.setIfInBounds j true) f) fr s h;exact Qf9.mono hv fun _ h=>h
  | i :: i2 :: rest,h=>
   simp only [vc] at h
   split at h
   ·rename_i k1 k2 _;intro j hj;rcases W0y.1 hj with rfl | hj
    ·have hv:SeqR P ops (aAny P ops (QF c P (FinG P F r) fr .normal) f (l.setIfInBounds j true)) [j] s.fs:=Qay hn hm n k1 (.regS ops [j] (l.setIfInBounds j true) f) fr s h.1;exact Qf9.mono hv fun _ h=>h
    ·exact Qay hn hm n k2 (.regB ops l (i2 :: rest) f) fr s h.2 j hj
   ·exact h.elim
 | n+1,ct,.regL ops pre j post,fr,s,h=>by
  match pre,h with
  | [],h=>
   simp only [vc] at h
   split at h
   ·rename_i rd b upd hh k _;exact hh ops j s _ h.1 fun a=>Qay hn hm n (k a) (.reg ops post) fr _ (h.2 a)
   ·exact h.elim
  | i :: rest,h=>exact Qk9 (G:=fun k m s'=>vc P F r n k (.regL ops ((i :: rest).drop m) j post) fr s') h fun k m s' hk=>Qay hn hm n k (.regL ops ((i :: rest).drop m) j post) fr s' hk
 | n+1,ct,.code x,fr,s,h=>by
  simp only [vc] at h;show AWp c P x (QF c P (FinG P F r) fr) s.fs;cases hst:Zdh ct with
  | true=>
   rw [hst] at h;exact Zja (G:=fun k m s'=>vc P F r n k (.code x) fr s') h fun k m s' hk=>Qay hn hm n k (.code x) fr s' hk
  | false=>
   rw [hst] at h;simp only [cond_false] at h;cases hvi:isVia ct with
   | true=>
    rw [hvi] at h;simp only [cond_true] at h;unfold viaV at h
    split at h
    ·rename_i nt code rest rd b upd hh k;obtain ⟨e,h⟩:=h;simp only [W0s] at e;obtain ⟨e1,rfl,e3⟩:=e;exact hh c _ s (hn.trans e1) hm e3 fun a=>Qay hn hm n (k a) (.code _) fr _ (h a)
    ·exact h.elim
   | false=>
   rw [hvi] at h;simp only [cond_false] at h;cases hin:Zkf ct&&compC x with
   | true=>
    rw [hin] at h;simp only [cond_true] at h;unfold intoV at h
    split at h
    ·exact Qvr (Qay hn hm n _ (.code _) (.k _ :: fr) s h)
    ·exact Qte (Qay hn hm n _ (.code _) (.blk _ :: fr) s h)
    ·exact Qtd (Qay hn hm n _ (.code _) (.scp :: fr) s h)
    ·exact h.elim
   | false=>
   rw [hin] at h;simp only [cond_false] at h
   split at h
   ·exact Zjm (Qay hn hm n ct .nrm fr s h)
   ·exact Zfq (Qay hn hm n ct .nrm fr s h)
   ·split at h
    ·rename_i J k cc;obtain ⟨h1,h2⟩:=h;refine Qvr ((Qay hn hm n k (.code _) (.jn J :: fr) s h1).mono fun e s' q=>?_);cases e with
     | normal=>
      obtain ⟨b,hb,hl⟩:=q;exact AWp.weaken hl (Qay hn hm n (cc b hb) (.code _) fr (J.st b) (h2 b hb))
     | _=>exact q
    ·exact Qvr (Qay hn hm n ct (.code _) (.k _ :: fr) s h)
   ·exact Qte (Qay hn hm n ct (.code _) (.blk _ :: fr) s h)
   ·split at h
    ·rename_i α l L k cc
     split at h
     ·rename_i rest hf;obtain ⟨h1,h2⟩:=h;exact Zfr l L.st L.μ L.H hf (AWp.mono (Qay hn hm n k (.code _) (.jmp l L none :: fr) s h1) fun e s' q=>by
       cases e with
       | goto l'=>obtain ⟨e1,b,hb,_,hl⟩:=q;exact ⟨e1,b,hb,hl⟩
       | _=>exact q) fun a ha=>Qay hn hm n (cc a ha) (.code _) (.jmp l L (some a) :: fr) (L.st a) (h2 a ha)
     ·exact h.elim
    ·exact Qtd (Qay hn hm n ct (.code _) (.scp :: fr) s h)
   ·exact Zjo (Zia h)
   ·split at h
    ·rename_i fr' hp;exact Zjp (Qim hp (Qay hn hm n ct .nrm fr' s h))
    ·exact h.elim
   ·exact Znh (Qns ⟨.inr rfl,Zd8 h⟩ fr)
   ·split at h
    ·rename_i t _ _ _ hb;cases hl:Nat.blt t F.ntmps with
     | false=>rw [hl] at h;exact h.elim
     | true=>
      rw [hl] at h;exact Zky true (by rw [hn];exact Nat.lt_of_succ_le (by simpa [Nat.blt] using hl)) hb rfl (Qay hn hm n ct (.code _) fr s h)
    ·rename_i t _ _ _ hb;cases hl:Nat.blt t F.ntmps with
     | false=>rw [hl] at h;exact h.elim
     | true=>
      rw [hl] at h;exact Zky false (by rw [hn];exact Nat.lt_of_succ_le (by simpa [Nat.blt] using hl)) hb rfl (Qay hn hm n ct (.code _) fr s h)
    ·exact h.elim
   ·rename_i ops
    split at h
    ·rename_i j k;cases hl:(Qbv F.ntmps ops&&(List.range ops.size==List.range j++j :: (List.range ops.size).drop (j+1))) with
     | false=>rw [hl] at h;exact h.elim
     | true=>
      rw [hl] at h;rw [W0r] at hl;exact Qvs (List.range j) j _ (by rw [hn];exact hl.1) hl.2 (Qay hn hm n k (.regL ops (List.range j) j ((List.range ops.size).drop (j+1))) fr s h)
    cases hl:Qbv F.ntmps ops with
    | false=>rw [hl] at h;exact h.elim
    | true=>
     rw [hl] at h;exact Zae (List.range ops.size) (by rw [hn];exact hl) (by simp) (Qay hn hm n ct (.reg ops (List.range ops.size)) fr s h)
   ·rename_i ops
    split at h
    ·rename_i pre a b k;cases hl:(Qbv F.ntmps ops&&(Quh P ops pre (Array.replicate ops.size false)&&(Zhu P ops (aft pre (Array.replicate ops.size false)) (a.length-1) [a,b]&&pre.length+(a.length-1)+1==ops.size))) with
     | false=>rw [hl] at h;exact h.elim
     | true=>
      rw [hl] at h;have hl2:=hl;simp only [W0r,beq_iff_eq] at hl2;have hv:=Qay hn hm n k (.regA ops pre a b) fr s h;refine Qeg hm (by rw [hn];exact hl2.1) ?_;have hp:=Qi3 (K:=QF c P (FinG P F r) fr .normal) (f:=a.length-1+1) pre _ s.fs hl2.2.1 (Qtl (fun s' hs'=>Zce hl2.2.2.1 (fun x hx=>by
       simp only [W0y,List.not_mem_nil,or_false] at hx;rcases hx with rfl | rfl
       ·exact hs'.1
       ·exact hs'.2)) pre s.fs hv)
      rw [show pre.length+(a.length-1+1)=ops.size from by omega] at hp;exact hp
    ·rename_i is k;cases hl:Qbv F.ntmps ops with
     | false=>rw [hl] at h;exact h.elim
     | true=>
      rw [hl] at h;exact Qeg hm (by rw [hn];exact hl) (Qay hn hm n (.pick is k) (.regD ops (Array.replicate ops.size false) ops.size) fr s h)
    ·rename_i k;cases hl:Qbv F.ntmps ops with
     | false=>rw [hl] at h;exact h.elim
     | true=>
      rw [hl] at h;exact Qeg hm (by rw [hn];exact hl) (Qay hn hm n (.fork k) (.regD ops (Array.replicate ops.size false) ops.size) fr s h)
    ·rename_i l k;cases hl:(Qbv F.ntmps ops&&(Qoj P ops l (Array.replicate ops.size false)&&l.length==ops.size)) with
     | false=>rw [hl] at h;exact h.elim
     | true=>
      rw [hl] at h;have hl2:=hl;rw [W0r] at hl2;exact Qnq l hm (by rw [hn];exact hl2.1) (by have h3:=hl2.2;rw [W0r] at h3 ⊢;exact ⟨Qpz h3.1,h3.2⟩) (Qay hn hm n k (.reg ops l) fr s h)
    ·exact h.elim
   ·split at h
    ·rename_i α L a0 hH s0 h1 h2 cc;obtain ⟨ho,hr⟩:=h;refine Zad L.st L.μ L.H a0 (Zc8 ho h1 h2) hH fun a ha=>?_;exact Qay hn hm n (cc a ha) (.code _) (.lp L a :: fr) (L.st a) (hr a ha)
    ·exact h.elim
   ·exact h.elim
def vcC {P:Program}:Ct P→Prop
 | .fin (x:=x) (r:=r) ps hp h=>(ps,x,r)=(ps,x,r)
 | .ord l k=>vcC k
 | .ordA pre alts k=>vcC k
 | .pick is k=>vcC k
 | .fork k=>vcC k
 | .alt a b=>vcC a∧vcC b
 | .run n ps hp k=>ps=ps∧vcC k
 | .new k=>∀ b,vcC (k b)
 | .call (f:=g) (args:=as0) h k=>(g,as0)=(g,as0)∧vcC k
 | .callS (f:=g) (args0:=as0) hs h k=>(g,as0)=(g,as0)∧vcC k
 | .callRow (f:=g) (args0:=as0) hs hk h c=>(g,as0)=(g,as0)∧∀ V,vcC (c V)
 | .idx (m:=m) (xs:=xs) j hm he k=>(xs,m)=(xs,m)∧vcC k
 | .idxM (m:=m) l f j hm hj c=>(l.map f,m)=(l.map f,m)∧∀ x hx,vcC (c x hx)
 | .is (b:=b) t h k=>b=b∧vcC k
 | .br t b k1 k2=>b=b∧(∀ h,vcC (k1 h))∧∀ h,vcC (k2 h)
 | .val (x:=x) t h k=>x=x∧vcC k
 | .ex h c=>∀ x hx,vcC (c x hx)
 | .no h=>True
 | .slc kk tt xs l h m a b t' hlo hhi hmx hab hbn k=>(kk,tt,xs,l,h,m)=(kk,tt,xs,l,h,m)∧vcC k
 | .slcS tx l h a b hlo hhi hab hbn k=>(tx,l,h)=(tx,l,h)∧vcC k
 | .app bytes V xs ys h63 hby c=>(V,V,xs,ys)=(V,V,xs,ys)∧∀ V,vcC (c V)
 | .appNew (x0:=x0) bytes kk xs ys hs h1 hk h63 hby c=>(x0,ys)=(x0,ys)∧∀ V,vcC (c V)
 | .appNone bytes k=>True∧vcC k
 | .isNil xs c=>xs=xs∧∀ b h,vcC (c b h)
 | .mk0 (m:=m) bytes cap hm hby h63 c=>m=m∧∀ V,vcC (c V)
 | .lit0 c=>True∧∀ V,vcC (c V)
 | .litN c=>True∧∀ V,vcC (c V)
 | .mkMap c=>∀ b,vcC (c b)
 | .ins (kk:=kk) (es:=es) r hn k=>(r,r,kk,es)=(r,r,kk,es)∧vcC k
 | .look (kk:=kk) (es:=es) hn k=>(kk,es)=(kk,es)∧vcC k
 | .eqS k=>True∧vcC k
 | .binV (a:=a) (b:=b) op t h k=>(op,t,a,b)=(op,t,a,b)∧vcC k
 | .byte (m:=m) (tx:=tx) j hm hj c=>(tx,m)=(tx,m)∧∀ x hx,vcC (c x hx)
 | .frz id ts bs ps hp k=>ps=ps∧vcC k
 | .rowNil id t e k c=>True∧vcC c
 | .rowNilB id q j e k c=>True∧vcC c
 | .loop L a0 hH s0 h1 h2 c=>some s0=some s0∧∀ a h,vcC (c a h)
 | .back L a b hH hμ s0 h1 h2=>Fr.lp L a=Fr.lp L a∧some s0=some s0
 | .lent j k=>vcC k
 | .lop rd b upd h k=>some b=some b∧∀ a,vcC (k a)
 | .jump l L k c=>vcC k∧∀ a h,vcC (c a h)
 | .back0 L b hH s0 h1 h2=>Fr.jmp 0 L none=Fr.jmp 0 L none∧some s0=some s0
 | .cut J k c=>vcC k∧∀ a h,vcC (c a h)
 | .join J b hH s0 h1 h2=>Fr.jn J=Fr.jn J∧some s0=some s0
 | .into k=>vcC k
 | .finB (x:=x) (r:=r) ps hp y h=>(ps,x,r,y,y)=(ps,x,r,y,y)
 | .finBs (x:=x) (r:=r) ps hp V y h=>(ps,x,r,y,y)=(ps,x,r,y,y)
 | .finRow (x:=x) (r:=r) ps hp q e k n V h=>(ps,q,V,n,V,e,k,x,e,k,r)=(ps,q,V,n,V,e,k,x,e,k,r)
 | .op rd b upd h k=>some b=some b∧∀ a,vcC (k a)
 | .st rd b upd h k=>some b=some b∧∀ a,vcC (k a)
 | .via nt code rest rd b upd h k=>(nt,code,some b)=(nt,code,some b)∧∀ a,vcC (k a)
theorem Qaw {P:Program}:∀ ct:Ct P,vcC ct
 | .fin .. => rfl
 | .ord l k=>Qaw k
 | .ordA pre alts k=>Qaw k
 | .pick is k=>Qaw k
 | .fork k=>Qaw k
 | .alt a b=>⟨Qaw a,Qaw b⟩
 | .run n ps hp k=>⟨rfl,Qaw k⟩
 | .new k=>fun b=>Qaw (k b)
 | .call h k=>⟨rfl,Qaw k⟩
 | .callS hs h k=>⟨rfl,Qaw k⟩
 | .callRow hs hk h c=>⟨rfl,fun V=>Qaw (c V)⟩
 | .idx j hm he k=>⟨rfl,Qaw k⟩
 | .idxM l f j hm hj c=>⟨rfl,fun x hx=>Qaw (c x hx)⟩
 | .is t h k=>⟨rfl,Qaw k⟩
 | .br t b k1 k2=>⟨rfl,fun h=>Qaw (k1 h),fun h=>Qaw (k2 h)⟩
 | .val t h k=>⟨rfl,Qaw k⟩
 | .ex h c=>fun x hx=>Qaw (c x hx)
 | .no h=>trivial
 | .slc _ _ _ _ _ _ _ _ _ _ _ _ _ _ k=>⟨rfl,Qaw k⟩
 | .slcS _ _ _ _ _ _ _ _ _ k=>⟨rfl,Qaw k⟩
 | .app _ _ _ _ _ _ c=>⟨rfl,fun V=>Qaw (c V)⟩
 | .appNew _ _ _ _ _ _ _ _ _ c=>⟨rfl,fun V=>Qaw (c V)⟩
 | .appNone _ k=>⟨trivial,Qaw k⟩
 | .isNil xs c=>⟨rfl,fun b h=>Qaw (c b h)⟩
 | .mk0 _ _ _ _ _ c=>⟨rfl,fun V=>Qaw (c V)⟩
 | .lit0 c=>⟨trivial,fun V=>Qaw (c V)⟩
 | .litN c=>⟨trivial,fun V=>Qaw (c V)⟩
 | .mkMap c=>fun b=>Qaw (c b)
 | .ins _ _ k=>⟨rfl,Qaw k⟩
 | .look _ k=>⟨rfl,Qaw k⟩
 | .eqS k=>⟨trivial,Qaw k⟩
 | .binV _ _ _ k=>⟨rfl,Qaw k⟩
 | .byte _ _ _ c=>⟨rfl,fun x hx=>Qaw (c x hx)⟩
 | .frz _ _ _ _ _ k=>⟨rfl,Qaw k⟩
 | .rowNil _ _ _ _ c=>⟨trivial,Qaw c⟩
 | .rowNilB _ _ _ _ _ c=>⟨trivial,Qaw c⟩
 | .loop _ _ _ _ _ _ c=>⟨rfl,fun a h=>Qaw (c a h)⟩
 | .back .. => ⟨rfl,rfl⟩
 | .lent j k=>Qaw k
 | .lop _ _ _ _ k=>⟨rfl,fun a=>Qaw (k a)⟩
 | .jump l L k c=>⟨Qaw k,fun a h=>Qaw (c a h)⟩
 | .back0 .. => ⟨rfl,rfl⟩
 | .cut J k c=>⟨Qaw k,fun a h=>Qaw (c a h)⟩
 | .join .. => ⟨rfl,rfl⟩
 | .into k=>Qaw k
 | .finB .. => rfl
 | .finBs .. => rfl
 | .finRow .. => rfl
 | .op _ _ _ _ k=>⟨rfl,fun a=>Qaw (k a)⟩
 | .st _ _ _ _ k=>⟨rfl,fun a=>Qaw (k a)⟩
 | .via _ _ _ _ _ _ _ k=>⟨rfl,fun a=>Qaw (k a)⟩
def Qdc:List AV→Nat→List (Nat × AV)
 | [],_=>[]
 | x :: r,n=>(n,x) :: Qdc r (n+1)
theorem Qfl:∀ (l:List AV) (n t:Nat),lget (Qdc l n) t=if n≤t then l.getD (t-n) .any else .any
 | [],n,t=>by simp [Qdc,lget]
 | x :: r,n,t=>by
  simp only [Qdc,lget];cases hb:Nat.beq n t with
  | true=>
   obtain rfl:=W0q hb;simp
  | false=>
   have hne:n ≠ t:=fun e=>by rw [e,Nat.beq_refl] at hb;cases hb
   simp only [cond_false];rw [Qfl r (n+1) t];by_cases hle:n≤t
   ·rw [W1x hle,W1x (by omega)];rw [show t-n=(t-(n+1))+1 from by omega];simp
   ·rw [W1w hle,W1w (by omega)]
theorem Zk9 {P:Program} {f:FuncId} {F:Func} {code:Code} {args:List AV} {r:AV} (n:Nat) (ct:Ct P) (hf:P.funcs[f]?=some F) (hb:F.body=some code)
  (hk:(decide (args.length≤F.ntmps)&&(P.follows .mixedOrders&&(F.results.toList.all fun rv=>decide ((match rv with | .tmp t=>t | .cell t _=>t)<F.ntmps))))=true)
  (h:vcC ct=vc P F (.val r) n ct (.code code) [] ⟨Qdc args 0,[]⟩):Qag P f args r:=by
 simp only [W0r] at hk;refine Qyn ⟨Qdc args 0,[]⟩ hf hb hk.1 hk.2.2 rfl (fun t=>by rw [Qfl];simp) fun c hc=>?_;have hv:vc P F (.val r) n ct (.code code) [] ⟨Qdc args 0,[]⟩:=h ▸ Qaw ct;exact Qay hc hk.2.1 n ct (.code code) [] _ hv
abbrev Ct.r {P:Program} (n:Nat) (k:Ct P):Ct P:=.run n [] trivial k
def upd1 {γ:Type} (k:Nat) (x:γ):List (Nat × γ)→List (Nat × γ)
 | []=>[]
 | (j,y) :: r=>bif Nat.beq j k then (j,x) :: r else (j,y) :: upd1 k x r
def updL {γ:Type}:List (Nat × γ)→List (Nat × γ)→List (Nat × γ)
 | [],l=>l
 | (k,x) :: r,l=>updL r (upd1 k x l)
abbrev updS (s:LS) (ts:List (Nat × AV)) (bs:List (Nat × Bx)):LS:=⟨updL ts s.tm,updL bs s.bx⟩
def eqs:List Nat→List Prop
 | []=>[]
 | b :: r=>(b=b) :: eqs r
theorem eqsP:∀ l,allP (eqs l)
 | []=>trivial
 | _ :: r=>⟨rfl,eqsP r⟩
theorem sO {a b:Int} (h:a=b:=by first | omega | rfl):Sub (aI a) (aI b):=W2n (W1y aI h)
theorem sB {x:Bx}:∃ z,some x=some z∧SubB z x:=⟨_,rfl,SubB.refl _⟩
theorem bb1 {x0:Bx}:(∃ z,some x0=some z∧SubB z x0)∧True:=⟨sB,trivial⟩
theorem bb2 {x0 x1:Bx}:(∃ z,some x0=some z∧SubB z x0)∧(∃ z,some x1=some z∧SubB z x1)∧True:=⟨sB,sB,trivial⟩
theorem bb3 {x0 x1 x2:Bx}:(∃ z,some x0=some z∧SubB z x0)∧(∃ z,some x1=some z∧SubB z x1)∧(∃ z,some x2=some z∧SubB z x2)∧True:=⟨sB,sB,sB,trivial⟩
theorem bb4 {x0 x1 x2 x3:Bx}:(∃ z,some x0=some z∧SubB z x0)∧(∃ z,some x1=some z∧SubB z x1)∧(∃ z,some x2=some z∧SubB z x2)∧(∃ z,some x3=some z∧SubB z x3)∧True:=⟨sB,sB,sB,sB,trivial⟩
theorem bb5 {x0 x1 x2 x3 x4:Bx}:(∃ z,some x0=some z∧SubB z x0)∧(∃ z,some x1=some z∧SubB z x1)∧(∃ z,some x2=some z∧SubB z x2)∧(∃ z,some x3=some z∧SubB z x3)∧(∃ z,some x4=some z∧SubB z x4)∧True:=⟨sB,sB,sB,sB,sB,trivial⟩
namespace Ct
variable {P:Program}
def u (n:Nat) (l:List Nat) (k:Ct P):Ct P:=.run n (eqs l) (eqsP l) k
def fi (r:AV) (l:List Nat):Ct P:=.fin (eqs l) (eqsP l) (Sub.refl r)
def f (r:AV) (l:List Nat) (x:AV) (h:Sub x r):Ct P:=.fin (eqs l) (eqsP l) h
def lm (t:Nat) {β γ:Type} (l:List β) (g:β→γ) (k:Ct P):Ct P:=.val t (show (aI ((l.map g).length:Int):AV)=aI (l.length:Int) from by rw [W0a]) k
def be (t:Nat) {α:Type} [BEq α] [LawfulBEq α] (a b:α) (k1:a=b→Ct P) (k2:¬ a=b→Ct P):Ct P:=.br t (a==b) (fun q=>k1 (by simpa using q)) (fun q=>k2 (by simpa using q))
def bn (t:Nat) {α:Type} [BEq α] [LawfulBEq α] (a b:α) (k1:¬ a=b→Ct P) (k2:a=b→Ct P):Ct P:=.br t (a != b) (fun q=>k1 (by simpa using q)) (fun q=>k2 (by simpa using q))
def bd (t:Nat) (p:Prop) [Decidable p] (k1:p→Ct P) (k2:¬ p→Ct P):Ct P:=.br t (decide p) (fun q=>k1 (of_decide_eq_true q)) (fun q=>k2 (of_decide_eq_false q))
def bb (t:Nat) (b:Bool) (k1:b=true→Ct P) (k2:b=false→Ct P):Ct P:=.br t b k1 k2
def nbe (t:Nat) {α:Type} [BEq α] [LawfulBEq α] (a b:α) (k1:¬ a=b→Ct P) (k2:a=b→Ct P):Ct P:=.br t (!(a==b)) (fun q=>k1 (by simpa using q)) (fun q=>k2 (by simpa using q))
def nbd (t:Nat) (p:Prop) [Decidable p] (k1:¬ p→Ct P) (k2:p→Ct P):Ct P:=.br t (!decide p) (fun q=>k1 (by simpa using q)) (fun q=>k2 (by simpa using q))
def nbb (t:Nat) (b:Bool) (k1:b=false→Ct P) (k2:b=true→Ct P):Ct P:=.br t (!b) (fun q=>k1 (by simpa using q)) (fun q=>k2 (by simpa using q))
def lp {α:Type} (L:Lp α) (a0:α) (hH:L.H a0) (ts:List (Nat × AV)) (bs:List (Nat × Bx)) (h1:leT (updS (L.st a0) ts bs) (L.st a0).tm) (h2:leB (updS (L.st a0) ts bs) (L.st a0).bx) (c:∀ a,L.H a→Ct P):Ct P:=.loop L a0 hH (updS (L.st a0) ts bs) h1 h2 c
def bk {α:Type} (L:Lp α) (a b:α) (hH:L.H b) (hμ:L.μ b<L.μ a) (ts:List (Nat × AV)) (bs:List (Nat × Bx)) (h1:leT (updS (L.st b) ts bs) (L.st b).tm) (h2:leB (updS (L.st b) ts bs) (L.st b).bx):Ct P:=.back L a b hH hμ (updS (L.st b) ts bs) h1 h2
def jo {α:Type} (J:Jn α) (b:α) (ts:List (Nat × AV)) (bs:List (Nat × Bx)) (h1:leT (updS (J.st b) ts bs) (J.st b).tm) (h2:leB (updS (J.st b) ts bs) (J.st b).bx) (hH:J.H b:=by trivial):Ct P:=.join J b hH (updS (J.st b) ts bs) h1 h2
def cs {f:FuncId} {args0 args:List AV} {r:AV} (h:Qag P f args r) (hs:Qc0 args0 args) (k:Ct P):Ct P:=.callS hs h k
def cw {f:FuncId} {args0 args:List AV} {e k:Nat} {xs:List (List AV)} (h:Qq2 P f args e k xs) (hs:Qc0 args0 args) (c:Value→Ct P) (hk:∀ l∈xs,l.length=k:=by simp):Ct P:=.callRow hs hk h c
end Ct
theorem Qac {P:Program} {f:FuncId} {F:Func} {code:Code} {args:List AV} {r:AV} (hf:P.funcs[f]?=some F) (ct:Ct P) (n:Nat:=400) (hb:F.body=some code:=by rfl)
  (hk:(decide (args.length≤F.ntmps)&&(P.follows .mixedOrders&&(F.results.toList.all fun rv=>decide ((match rv with | .tmp t=>t | .cell t _=>t)<F.ntmps))))=true:=by kernel_rfl)
  (h:vcC ct=vc P F (.val r) n ct (.code code) [] ⟨Qdc args 0,[]⟩:=by kernel_rfl):Qag P f args r:=Zk9 n ct hf hb hk h
theorem beqT {α:Type} [BEq α] [LawfulBEq α] {a b:α} (h:(a==b)=true):a=b:=by simpa using h
theorem beqF {α:Type} [BEq α] [LawfulBEq α] {a b:α} (h:(a==b)=false):¬ a=b:=by simpa using h
theorem bneT {α:Type} [BEq α] [LawfulBEq α] {a b:α} (h:(a != b)=true):¬ a=b:=by simpa using h
theorem bneF {α:Type} [BEq α] [LawfulBEq α] {a b:α} (h:(a != b)=false):a=b:=by simpa using h
theorem decT {p:Prop} [Decidable p] (h:decide p=true):p:=of_decide_eq_true h
theorem decF {p:Prop} [Decidable p] (h:decide p=false):¬ p:=of_decide_eq_false h
theorem booT {b:Bool} (h:b=true):b=true:=h
theorem booF {b:Bool} (h:b=false):b=false:=h
theorem eqlN {P:Program} {k:IntKind} {t:TypeId} {a b:Int} (D:Nat→Prop) (w:World) (xo yo:Operand) (u v:Value) (hu:Ra D w (.val (.int k a)) u) (hv:Ra D w (.val (.int k b)) v) :
  ∃ r,((do Go.eqGuard .eql t xo yo u v;Go.binOp .eql t u v):Sem Value).run P w=.ok r w∧Ra D w (aB (a==b)) r:=by
 cases hu;cases hv;exact ⟨_,by simp [eqGuard,binOp,Op.intCmp],.val _⟩
theorem geqS {P:Program} {t:TypeId} {a b:List UInt8} (D:Nat→Prop) (w:World) (xo yo:Operand) (u v:Value) (hu:Ra D w (aS a) u) (hv:Ra D w (aS b) v) :
  ∃ r,((do Go.eqGuard .geq t xo yo u v;Go.binOp .geq t u v):Sem Value).run P w=.ok r w∧Ra D w (aB (!Op.bytesLess a b)) r:=by
 cases hu;cases hv;exact ⟨_,by simp [eqGuard,binOp,Op.stringOp],.val _⟩
theorem notT {b:Bool} (h:(!b)=true):b=false:=by simpa using h
theorem notF {b:Bool} (h:(!b)=false):b=true:=by simpa using h
def Qd3 (P:Program) (f:FuncId) (args:List AV) (e k:Nat) (xs:List (List AV)):Prop:=
 ∀ (D:Nat→Prop) (w:World) (vs:Array Value),(∀ b,D b→b<w.heap.size)→Qc8 D w args vs →
  Calls P f vs w (fun r w'=>∃ V us,∃ D':Nat→Prop,r=.returned V∧Below w.heap.size w w'∧(∀ b,D b→D' b)∧(∀ b,D' b→b<w'.heap.size∧(D b∨w.heap.size≤b))∧w'.ownsRow w.heap.size e k V xs.length us∧(∀ g,V.ownBlock=some g→¬ D' g) ∧
   (∀ l∈xs,l.length=k)∧(∀ u∈us,u.oneCell'=true)∧∀ (j:Nat) (a:AV) (u:Value),xs.flatten[j]?=some a→us[j]?=some u→Ra D' w' a u)
theorem Qyo {P:Program} {f:FuncId} {F:Func} {code:Code} {args:List AV} {e k:Nat} {xs:List (List AV)} (n:Nat) (ct:Ct P) (hf:P.funcs[f]?=some F) (hb:F.body=some code)
  (hk:(decide (args.length≤F.ntmps)&&(P.follows .mixedOrders&&(F.results.toList.all fun rv=>decide ((match rv with | .tmp t=>t | .cell t _=>t)<F.ntmps))))=true)
  (h:vcC ct=vc P F (.row e k xs) n ct (.code code) [] ⟨Qdc args 0,[]⟩):Qd3 P f args e k xs:=by
 simp only [W0r] at hk;have hsz:args.length≤F.ntmps:=of_decide_eq_true hk.1;have hn:=hk.2.2;have hv:vc P F (.row e k xs) n ct (.code code) [] ⟨Qdc args 0,[]⟩:=h ▸ Qaw ct;intro D w vs hD hvs;refine calls_of_wp hf hb ?_
 let c:Cx:=⟨w.heap.size,w,F.ntmps,D,fun _=>False⟩
 have hawp:AWp c P code (FinG P F (.row e k xs)) (LS.mk (Qdc args 0) []).fs:=Qay (c:=c) rfl hk.2.1 n ct (.code code) [] _ hv;have htm:∀ t,(LS.mk (Qdc args 0) []).fs.tm t=args.getD t .any:=fun t=>by
  show lget (Qdc args 0) t=_;rw [Qfl];simp
 have hrel:Rel c (LS.mk (Qdc args 0) []).fs { tmps:=vs++Array.replicate (F.ntmps-vs.size) undef,defers:=[] } w:=by
  refine ⟨W0m _,D,rfl,?_,BelowL.refl (c:=c),hD,⟨fun _ h=>h,fun _ h=>.inl h⟩,fun t v hv=>?_,fun id x h=>(by cases h),fun i j x y h=>(by cases h)⟩
  ·have:=hvs.1;simp [c];omega
  ·rw [htm];by_cases ht:t<vs.size
   ·rw [W2b ht] at hv;have hta:t<args.length:=by rw [hvs.1];exact ht
    have:=hvs.2 t args[t] v (W0d hta) hv;simpa [List.getD,W0d hta] using this
   ·have hta:args.length≤t:=by rw [hvs.1];omega
    have:args.getD t .any=.any:=by simp [List.getD,W1h hta]
    rw [this];exact .any v
 refine wp_mono (hawp _ _ hrel) fun e' a' w' ⟨s',hq,hc,D',hR⟩=>?_;obtain ⟨he,ps,q,V,m,hx,hp,hbx⟩:=hq;have hn':∀ rv∈F.results.toList,(match rv with | .tmp t=>t | .cell t _=>t)<c.n:=fun rv hrv=>by
  have:=W1z.1 hn rv hrv;simpa using this
 obtain ⟨v,hv1,hrv⟩:=Qfr hR hn' (show Qv5 P F (.rw q V m) s' from ⟨ps,_,hx,hp,sR⟩);have hvV:v=V:=by cases hrv;rfl
 subst hvV;obtain ⟨h1,h2⟩:=hR.bx q _ hbx;obtain ⟨hkx,us,hown,hus,hru⟩:=h2;have hownB:w'.ownsRow w.heap.size e k v xs.length us:=by
  refine ⟨hown.1,?_⟩;rcases hown.2 with h' | ⟨g,cap,cur,rfl,_,r⟩
  ·exact .inl h'
  ·exact .inr ⟨g,cap,cur,rfl,(h1 g rfl).1.resolve_right id,r⟩
 have fin:∃ V us,∃ D'':Nat→Prop,Ending.returned v=.returned V∧Below w.heap.size w w'∧(∀ b,D b→D'' b)∧(∀ b,D'' b→b<w'.heap.size∧(D b∨w.heap.size≤b))∧w'.ownsRow w.heap.size e k V xs.length us∧(∀ g,V.ownBlock=some g→¬ D'' g) ∧
   (∀ l∈xs,l.length=k)∧(∀ u∈us,u.oneCell'=true)∧∀ (j:Nat) (a:AV) (u:Value),xs.flatten[j]?=some a→us[j]?=some u→Ra D'' w' a u:=
  ⟨v,us,D',rfl,hR.below.plain (fun _ h=>h),hR.old.1,fun b hb=>⟨hR.dlt b hb,(hR.old.2 b hb).imp id fun h=>h.resolve_right id⟩,hownB,fun g hg=>(h1 g hg).2,hkx,hus,hru⟩
 rcases he with rfl | rfl
 ·exact ⟨hR.defers,v,hv1,fin⟩
 ·exact ⟨hR.defers,v,hv1,fin⟩
theorem Qek {P:Program} {f:FuncId} {F:Func} {code:Code} {args:List AV} {e k:Nat} {xs:List (List AV)} (hf:P.funcs[f]?=some F) (ct:Ct P) (n:Nat:=400) (hb:F.body=some code:=by rfl)
  (hk:(decide (args.length≤F.ntmps)&&(P.follows .mixedOrders&&(F.results.toList.all fun rv=>decide ((match rv with | .tmp t=>t | .cell t _=>t)<F.ntmps))))=true:=by kernel_rfl)
  (h:vcC ct=vc P F (.row e k xs) n ct (.code code) [] ⟨Qdc args 0,[]⟩:=by kernel_rfl):Qd3 P f args e k xs:=Qyo n ct hf hb hk h
end Go.Proofs.YtkhodpknpligpaaGreat
