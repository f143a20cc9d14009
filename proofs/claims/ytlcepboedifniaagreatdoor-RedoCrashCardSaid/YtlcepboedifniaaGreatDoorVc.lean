/- A function's whole walk over abstract states, computed: a certificate (Ct) tells what a walk chooses, with a proof of each thing that must hold; vc computes what is left, and what is left is that the certificate's claims are what is computed (vcC). Over any program. No conditions beyond each law's own. -/
import Derived.Test.YtlcepboedifniaaGreatDoorMrgG
import Derived.Scope
import Derived.ScopeJumps
set_option linter.unusedVariables false
set_option linter.unusedSimpArgs false
namespace Go.Proofs.YtlcepboedifniaaGreatDoor
open Go Go.RowKit Copyhold
structure Lp (α : Type) where
  st : α → LS
  μ : α → Nat
  H : α → Prop
structure Jn (α : Type) where
  st : α → LS
  H : α → Prop
def Lends (ys : List (Nat × Bx)) (g : Nat) : Prop := ∃ p ∈ ys, p.2.blk = some g
def ApartN (ys : List (Nat × Bx)) : Prop := ∀ p ∈ ys, ∀ q ∈ ys, p.1 ≠ q.1 → ∀ g, p.2.blk = some g → q.2.blk ≠ some g
def setBs (s : FS) : List (Nat × Bx) → FS
  | [] => s
  | (i, y) :: r => setBs (s.setB i (some y)) r
def setBsL (s : LS) : List (Nat × Bx) → LS
  | [] => s
  | (i, y) :: r => setBsL (s.setB i y) r
theorem fs_setBs : ∀ (l : List (Nat × Bx)) (s : LS), (setBsL s l).fs = setBs s.fs l
  | [], _ => rfl
  | (i, y) :: r, s => by
    show (setBsL (s.setB i y) r).fs = setBs (s.fs.setB i (some y)) r
    rw [fs_setBs r, LS.fs_setB]
theorem setBs_bx : ∀ {l : List (Nat × Bx)} {s : FS} {i : Nat} {x : Bx}, (setBs s l).bx i = some x → (i, x) ∈ l ∨ (s.bx i = some x ∧ ∀ p ∈ l, p.1 ≠ i)
  | [], s, i, x, h => .inr ⟨h, fun p hp => (by cases hp)⟩
  | (j, y) :: r, s, i, x, h => by
    rcases setBs_bx (l := r) (s := s.setB j (some y)) h with h1 | ⟨h1, h2⟩
    · exact .inl (List.mem_cons_of_mem _ h1)
    · simp only [FS.setB] at h1
      split at h1
      · rename_i e
        subst e
        obtain rfl := Option.some.inj h1
        exact .inl (List.mem_cons_self ..)
      · rename_i e
        refine .inr ⟨h1, fun p hp => ?_⟩
        rcases List.mem_cons.1 hp with rfl | hp
        · exact fun e2 => e e2.symm
        · exact h2 p hp
theorem setBs_tm : ∀ (l : List (Nat × Bx)) (s : FS), (setBs s l).tm = s.tm
  | [], _ => rfl
  | (i, y) :: r, s => by
    show (setBs (s.setB i (some y)) r).tm = _
    rw [setBs_tm r]
    rfl
theorem put_setBs : ∀ (l : List (Nat × Bx)) (s : FS) (d : Option Tmp) (x : AV), (setBs s l).put d x = setBs (s.put d x) l
  | [], _, _, _ => rfl
  | (i, y) :: r, s, d, x => by
    show (setBs (s.setB i (some y)) r).put d x = setBs ((s.put d x).setB i (some y)) r
    rw [put_setBs r, put_setB]
theorem relTurn {c : Cx} {D D' : Nat → Prop} {s : FS} {a : Act} {w w' : World} (h : RelD c D s a w) (hc : c.base ≤ w.heap.size) {ys ys' : List (Nat × Bx)} (hy : ∀ p ∈ ys, s.bx p.1 = some p.2)
    (hkey : ys'.map Prod.fst = ys.map Prod.fst) (h0 : Below 0 w w') (hk : ∀ k, ¬ Lends ys k → k < w.heap.size → w'.heap[k]? = w.heap[k]?) (hDD : ∀ b, D b → D' b)
    (hD' : ∀ b, D' b → b < w'.heap.size ∧ (D b ∨ Lends ys b ∨ w.heap.size ≤ b)) (hb : ∀ p ∈ ys', ∀ g, p.2.blk = some g → (Lends ys g ∨ w.heap.size ≤ g) ∧ ¬ D' g) (hR : ∀ p ∈ ys', BoxR D' w' p.2) (hap : ApartN ys') :
    RelD c D' (setBs s ys') a w' := by
  have lo : ∀ g, Lends ys g → c.own g ∧ ¬ D g := fun g ⟨p, hp, e⟩ => (h.bx p.1 p.2 (hy p hp)).1 g e
  have hbx : ∀ i x, (setBs s ys').bx i = some x → (i, x) ∈ ys' ∨ (s.bx i = some x ∧ ∀ p ∈ ys, p.1 ≠ i) := fun i x hx => by
    rcases setBs_bx hx with h1 | ⟨h1, h2⟩
    · exact .inl h1
    · refine .inr ⟨h1, fun p hp e => ?_⟩
      have : p.1 ∈ ys'.map Prod.fst := by rw [hkey]; exact List.mem_map_of_mem hp
      obtain ⟨q, hq, e2⟩ := List.mem_map.1 this
      exact h2 q hq (e2.trans e)
  have no : ∀ i x, s.bx i = some x → (∀ p ∈ ys, p.1 ≠ i) → ∀ g, x.blk = some g → ¬ Lends ys g := fun i x hx hn g hg ⟨p, hp, e⟩ => h.apart i p.1 x p.2 hx (hy p hp) (fun e => hn p hp e.symm) g hg e
  have hkD : ∀ b, D b → b < w.heap.size → w'.heap[b]? = w.heap[b]? := fun b hd hl => hk b (fun e => (lo b e).2 hd) hl
  refine ⟨h.defers, h.size, ?_, fun b hd => (hD' b hd).1, ⟨fun b hb => hDD b (h.old.1 b hb), fun b hb => ?_⟩, fun t v hv => ?_, ?_, ?_⟩
  · refine ⟨h0.os.trans h.below.os, h0.tape.trans h.below.tape, h0.output.trans h.below.output, Nat.le_trans h.below.size h0.size, fun k hlt hl => ?_⟩
    rw [hk k (fun e => by rcases (lo k e).1 with g | g; (· omega); exact hl g) (by omega)]
    exact h.below.block k hlt hl
  · rcases (hD' b hb).2 with e | e | e
    · exact h.old.2 b e
    · exact .inr (lo b e).1
    · exact .inr (.inl (Nat.le_trans hc e))
  · rw [setBs_tm]
    exact (h.tm t v hv).frame hDD h0.size hkD
  · intro i x hx
    rcases hbx i x hx with hm | ⟨ho, hn⟩
    · refine ⟨fun g hg => ⟨?_, (hb _ hm g hg).2⟩, hR _ hm⟩
      rcases (hb _ hm g hg).1 with e | e
      · exact (lo g e).1
      · exact .inl (Nat.le_trans hc e)
    · obtain ⟨h1, h3⟩ := h.bx i x ho
      refine ⟨fun g hg => ⟨(h1 g hg).1, fun hd => ?_⟩, h3.frame hDD h0.size hkD (fun g hg => hk _ (no i x ho hn g hg) (h3.lt hg))⟩
      rcases (hD' g hd).2 with e | e | e
      · exact (h1 g hg).2 e
      · exact no i x ho hn g hg e
      · have := h3.lt hg; omega
  · intro i j x x' hx hx' hij g hg hg'
    rcases hbx i x hx with hm | ⟨ho, hn⟩ <;> rcases hbx j x' hx' with hm' | ⟨ho', hn'⟩
    · exact hap _ hm _ hm' hij g hg hg'
    · have h3 := (h.bx j x' ho').2.lt hg'
      rcases (hb _ hm g hg).1 with e | e
      · exact no j x' ho' hn' g hg' e
      · omega
    · have h3 := (h.bx i x ho).2.lt hg
      rcases (hb _ hm' g hg').1 with e | e
      · exact no i x ho hn g hg e
      · omega
    · exact h.apart i j x x' ho ho' hij g hg hg'
def MutN (P : Program) (o : Oper) (s : FS) (ys : List (Nat × Bx)) (ys' : Value → List (Nat × Bx)) (x : AV) : Prop :=
  (∀ p ∈ ys, s.bx p.1 = some p.2) ∧ (∀ V, (ys' V).map Prod.fst = ys.map Prod.fst) ∧
  ∀ (D : Nat → Prop) (w : World) (a : Act) (Q : Exit → Act → World → Prop) (K : Act → World → Prop), (∀ b, D b → b < w.heap.size) → opsR D w s a.eval o → (∀ p ∈ ys, BoxR D w p.2) → (∀ p ∈ ys, ∀ g, p.2.blk = some g → ¬ D g) → ApartN ys →
    (∀ V v w' (D' : Nat → Prop), Below 0 w w' → (∀ k, ¬ Lends ys k → k < w.heap.size → w'.heap[k]? = w.heap[k]?) → (∀ b, D b → D' b) → (∀ b, D' b → b < w'.heap.size ∧ (D b ∨ Lends ys b ∨ w.heap.size ≤ b)) →
      (∀ p ∈ ys' V, ∀ g, p.2.blk = some g → (Lends ys g ∨ w.heap.size ≤ g) ∧ ¬ D' g) → (∀ p ∈ ys' V, BoxR D' w' p.2) → ApartN (ys' V) → Ra D' w' x v → K (a.put o.dst v) w') → o.wp P a w K Q
def StepL (P : Program) (ops : Array Oper) (i : Nat) (s : FS) (K : FS → Prop) : Prop :=
  ∃ o, ops[i]? = some o ∧ gd ops s o = some true ∧ ((∃ id Out, MutF P o s id Out ∧ ∀ x y', Out x y' → K ((s.put o.dst x).setB id (some y'))) ∨ ∃ ys ys' x, MutN P o s ys ys' x ∧ ∀ V, K (setBs (s.put o.dst x) (ys' V)))
theorem StepL.sound {c : Cx} {P : Program} {ops : Array Oper} {i : Nat} {s : FS} {K : FS → Prop} {a : Act} {w : World} {Q : Exit → Act → World → Prop} (hs : slotsOk c.n ops = true) (h : StepL P ops i s K) (hr : Rel c s a w) :
    wpOp P ops Q i (fun a' w' => ∃ s', K s' ∧ Rel c s' a' w') a w := by
  obtain ⟨o, ho, h1, h⟩ := h
  obtain ⟨hc, D, hR⟩ := hr
  have hops : opsR D w s a.eval o := fun y hy => hR.ev y (slotsOk_op hs ho hy)
  unfold wpOp
  simp only [ho]
  rw [if_pos (gd_wanted hs hR h1)]
  left
  rcases h with ⟨id, Out, h4, h5⟩ | ⟨ys, ys', x, ⟨hy, hkey, h4⟩, h5⟩
  rotate_left
  · refine h4 D w a Q _ hR.dlt hops (fun p hp => (hR.bx p.1 p.2 (hy p hp)).2) (fun p hp g hg => ((hR.bx p.1 p.2 (hy p hp)).1 g hg).2) (fun p hp q hq hne g hg => hR.apart p.1 q.1 p.2 q.2 (hy p hp) (hy q hq) hne g hg) (fun V v w' D' h0 hk hDD hD' hb hB hap hv => ?_)
    refine ⟨_, h5 V, Nat.le_trans hc h0.size, D', ?_⟩
    rw [← put_setBs]
    exact (relTurn hR hc hy (hkey V) h0 hk hDD hD' hb hB hap).put _ hv
  refine h4 D w a Q _ hR.dlt hops hR.boxes (fun y g hy hg => ((hR.bx id y hy).1 g hg).2) (fun v w' x y y' D' hO hy h0 hk hDD hD' hb hB hv => ?_)
  refine ⟨_, h5 x y' hO, Nat.le_trans hc h0.size, D', ?_⟩
  rw [← put_setB]
  exact (hR.mutF hc id y y' hy h0 hk hDD hD' hb hB).put _ hv
theorem seqR_then {c : Cx} {P : Program} {Q : Exit → FS → Prop} {ops : Array Oper} {K : FS → Prop} {rest : List Nat} (hs : slotsOk c.n ops = true)
    (hK : ∀ s a w, K s → Rel c s a w → wpOps P ops (fun e a' w' => ∃ s', Q e s' ∧ Rel c s' a' w') rest a w) : ∀ (l : List Nat) (s : FS) (a : Act) (w : World), SeqR P ops K l s → Rel c s a w → wpOps P ops (fun e a' w' => ∃ s', Q e s' ∧ Rel c s' a' w') (l ++ rest) a w
  | [], s, a, w, h, hr => hK s a w h hr
  | i :: r, s, a, w, h, hr => by
    rw [List.cons_append, wpOps_cons]
    exact wpOp_mono (fun a' w' ⟨s', h', hr'⟩ => seqR_then hs hK r s' a' w' h' hr') (StepR.sound hs h hr)
theorem awp_regionL {c : Cx} {P : Program} {Q : Exit → FS → Prop} {s : FS} {id : Nat} {ops : Array Oper} (pre : List Nat) (j : Nat) (post : List Nat) (hs : slotsOk c.n ops = true) (ho : (List.range ops.size == pre ++ j :: post) = true)
    (h : SeqR P ops (fun s' => StepL P ops j s' (SeqR P ops (Q .normal) post)) pre s) : AWp c P (.region id ops false) Q s := fun a w hr => by
  refine wp_region ?_
  rw [beq_iff_eq.1 ho]
  refine seqR_then hs (fun s a w hk hr => ?_) pre s a w h hr
  rw [wpOps_cons]
  exact wpOp_mono (fun a' w' ⟨s', h', hr'⟩ => seqR_ops hs post s' a' w' h' hr') (StepL.sound hs hk hr)
inductive Ct (P : Program) : Type 1 where
  | fin (ps : List Prop) (hp : allP ps) {x r : AV} (h : Sub x r)
  | ord (l : List Nat) (k : Ct P)
  | ordA (pre : List Nat) (alts : List (List Nat)) (k : Ct P)
  | alt (a b : Ct P)
  | pick (is : List Nat) (k : Ct P)
  | fork (k : Ct P)
  | run (n : Nat) (ps : List Prop) (hp : allP ps) (k : Ct P)
  | new (k : Nat → Ct P)
  | call {f : FuncId} {args : List AV} {r : AV} (h : FSpec P f args r) (k : Ct P)
  | callS {f : FuncId} {args0 args : List AV} {r : AV} (hs : SubAll args0 args) (h : FSpec P f args r) (k : Ct P)
  | callRow {f : FuncId} {args0 args : List AV} {e k : Nat} {xs : List (List AV)} (hs : SubAll args0 args) (hk : ∀ l ∈ xs, l.length = k) (h : RowSpec P f args e k xs) (c : Value → Ct P)
  | idx (j : Nat) {m : Int} {xs : List (List AV)} {e : List AV} (hm : m = (j : Int)) (he : xs[j]? = some e) (k : Ct P)
  | idxM {β : Type} (l : List β) (f : β → List AV) (j : Nat) {m : Int} (hm : m = (j : Int)) (hj : j < l.length) (c : ∀ x, l[j]? = some x → Ct P)
  | is (t : Nat) {b v : Bool} (h : b = v) (k : Ct P)
  | br (t : Nat) (b : Bool) (k1 : b = true → Ct P) (k2 : b = false → Ct P)
  | val (t : Nat) {x y : AV} (h : x = y) (k : Ct P)
  | ex {β : Type} {p : β → Prop} (h : ∃ x, p x) (c : ∀ x, p x → Ct P)
  | no (h : False)
  | slc (kk : Nat) (tt : Bool) (xs : List (List AV)) (l h m : Option Int) (a b : Nat) (t' : Bool) (hlo : loOk l a) (hhi : hiOk h b xs.length) (hmx : mxOk m h b tt t' xs.length) (hab : a ≤ b) (hbn : b ≤ xs.length) (k : Ct P)
  | slcS (tx : List UInt8) (l h : Option Int) (a b : Nat) (hlo : loOk l a) (hhi : hiOk h b tx.length) (hab : a ≤ b) (hbn : b ≤ tx.length) (k : Ct P)
  | app (bytes : Nat) (V : Value) (xs ys : List (List AV)) (h63 : xs.length + ys.length ≤ 140737488355327) (hby : (xs.length + ys.length) * bytes ≤ 140737488355328) (c : Value → Ct P)
  | appNew (bytes kk : Nat) {x0 : AV} (xs ys : List (List AV)) (hs : Sub x0 (.sl kk true xs)) (h1 : 1 ≤ ys.length) (hk : ∀ l ∈ xs ++ ys, l.length = kk) (h63 : xs.length + ys.length ≤ 140737488355327) (hby : (xs.length + ys.length) * bytes ≤ 140737488355328) (c : Value → Ct P)
  | appNone (bytes : Nat) (k : Ct P)
  | isNil (xs : List (List AV)) (c : ∀ b : Bool, (b = true → xs = []) → Ct P)
  | mk0 (bytes cap : Nat) {m : Int} (hm : m = (cap : Int)) (hby : bytes * cap ≤ 140737488355328) (h63 : cap ≤ 140737488355327) (c : Value → Ct P)
  | lit0 (c : Value → Ct P)
  | litN (c : Value → Ct P)
  | mkMap (c : Nat → Ct P)
  | ins (r : Nat) {kk : MK} {es : List (MK × AV)} (hn : mfind kk es 0 = none) (k : Ct P)
  | look {kk : MK} {es : List (MK × AV)} {fd : Option (Nat × AV)} (hn : mfind kk es 0 = fd) (k : Ct P)
  | eqS (k : Ct P)
  | binV (op : BinOp) (t : TypeId) {a b x : AV} (h : ∀ (D : Nat → Prop) (w : World) (xo yo : Operand) (u v : Value), Ra D w a u → Ra D w b v → ∃ r, ((do Go.eqGuard op t xo yo u v; Go.binOp op t u v) : Sem Value).run P w = .ok r w ∧ Ra D w x r) (k : Ct P)
  | byte (j : Nat) {m : Int} {tx : List UInt8} (hm : m = (j : Int)) (hj : j < tx.length) (c : ∀ c : UInt8, tx[j]? = some c → Ct P)
  | frz (id : Nat) (ts bs : List Nat) (ps : List Prop) (hp : allP ps) (k : Ct P)
  | rowNil (id t e k : Nat) (c : Ct P)
  | rowNilB (id q j e k : Nat) (c : Ct P)
  | loop {α : Type} (L : Lp α) (a0 : α) (hH : L.H a0) (s0 : LS) (h1 : leT s0 (L.st a0).tm) (h2 : leB s0 (L.st a0).bx) (c : ∀ a, L.H a → Ct P)
  | back {α : Type} (L : Lp α) (a b : α) (hH : L.H b) (hμ : L.μ b < L.μ a) (s0 : LS) (h1 : leT s0 (L.st b).tm) (h2 : leB s0 (L.st b).bx)
  | lent (j : Nat) (k : Ct P)
  | lop {α β : Type} (rd : Array Oper → LS → Nat → Option β) (b : β) (upd : α → LS → LS) (h : ∀ (ops : Array Oper) (i : Nat) (s : LS) (K : FS → Prop), rd ops s i = some b → (∀ a, K (upd a s).fs) → StepL P ops i s.fs K) (k : α → Ct P)
  | jump {α : Type} (l : Nat) (L : Lp α) (k : Ct P) (c : ∀ a, L.H a → Ct P)
  | back0 {α : Type} (L : Lp α) (b : α) (hH : L.H b) (s0 : LS) (h1 : leT s0 (L.st b).tm) (h2 : leB s0 (L.st b).bx)
  | cut {α : Type} (J : Jn α) (k : Ct P) (c : ∀ a, J.H a → Ct P)
  | join {α : Type} (J : Jn α) (b : α) (hH : J.H b) (s0 : LS) (h1 : leT s0 (J.st b).tm) (h2 : leB s0 (J.st b).bx)
  | into (k : Ct P)
  | finB (ps : List Prop) (hp : allP ps) {x r : AV} (y : Bx) (h : Sub x r)
  | finBs (ps : List Prop) (hp : allP ps) {x r : AV} (V : Value) (ys : List (Nat × Bx)) (h : Sub x r)
  | finRow (ps : List Prop) (hp : allP ps) (q e k n : Nat) (V : Value) {x r : List (List AV)} (h : x = r)
  | op {α β : Type} (rd : Array Oper → LS → Nat → Option β) (b : β) (upd : α → LS → LS) (h : ∀ (ops : Array Oper) (i : Nat) (s : LS) (K : FS → Prop) (rest : List Nat), rd ops s i = some b → (∀ a, SeqR P ops K rest (upd a s).fs) → SeqR P ops K (i :: rest) s.fs) (k : α → Ct P)
  | st {α β : Type} (rd : LS → Option β) (b : β) (upd : α → LS → LS) (h : ∀ (c : Cx) (Q : Exit → FS → Prop) (code : Code) (s : LS), rd s = some b → (∀ a, AWp c P code Q (upd a s).fs) → AWp c P code Q s.fs) (k : α → Ct P)
  | via {α β : Type} (nt : Nat) (code rest : Code) (rd : LS → Option β) (b : β) (upd : α → LS → LS) (h : ∀ (c : Cx) (Q : Exit → FS → Prop) (s : LS), c.n = nt → P.follows .mixedOrders = true → rd s = some b → (∀ a, AWp c P rest Q (upd a s).fs) → AWp c P code Q s.fs) (k : α → Ct P)
inductive Fr : Type 1 where
  | k (c : Code)
  | blk (id : Nat)
  | lp {α : Type} (L : Lp α) (a : α)
  | jn {α : Type} (J : Jn α)
  | jmp {α : Type} (l : Nat) (L : Lp α) (m : Option α)
  | scp
def noGotoQ (Q : Exit → FS → Prop) : Exit → FS → Prop
  | .goto _, _ => False
  | e, s => Q e s
theorem awp_scope {c : Cx} {P : Program} {Q : Exit → FS → Prop} {s : FS} {x : Code} (h : AWp c P x (noGotoQ Q) s) : AWp c P (.scope x) Q s := fun a w hr =>
  wp_scope_straight (wp_mono (h a w hr) fun e a' w' ⟨s', hq, hr'⟩ => by
    cases e <;> first | exact hq.elim | exact ⟨s', hq, hr'⟩)
def jmpQ (l : Nat) (J : FS → Prop) (Q : Exit → FS → Prop) : Exit → FS → Prop
  | .goto l', s => l' = l ∧ J s
  | e, s => Q e s
theorem least_of {p : Nat → Prop} (h : ∃ n, p n) : ∃ n, p n ∧ ∀ m, p m → n ≤ m := by
  obtain ⟨n, hn⟩ := h
  induction n using Nat.strongRecOn with
  | _ n ih =>
    by_cases hm : ∃ m, m < n ∧ p m
    · obtain ⟨m, h1, h2⟩ := hm
      exact ih m h1 h2
    · exact ⟨n, hn, fun m h => by
        by_cases hl : n ≤ m
        · exact hl
        · exact (hm ⟨m, by omega, h⟩).elim⟩
open Classical in
theorem awp_jumps {c : Cx} {P : Program} {Q : Exit → FS → Prop} {x rest : Code} {s : FS} {α : Type} (l : Nat) (st : α → LS) (μ : α → Nat) (H : α → Prop) (hf : findLabel x l = some rest)
    (first : AWp c P x (jmpQ l (fun s' => ∃ b, H b ∧ s'.le' (st b).fs) Q) s)
    (pass : ∀ a, H a → AWp c P rest (jmpQ l (fun s' => ∃ b, H b ∧ μ b < μ a ∧ s'.le' (st b).fs) Q) (st a).fs) : AWp c P (.scope x) Q s := fun A w hr => by
  let R : Act → World → Nat → Prop := fun A' w' n => ∃ a, H a ∧ μ a = n ∧ ∃ s' : FS, s'.le' (st a).fs ∧ Rel c s' A' w'
  refine wp_scope_jumps l (fun A' w' => ∃ n, R A' w' n) (fun A' w' => if h : ∃ n, R A' w' n then Classical.choose (least_of h) else 0) hf (wp_mono (first A w hr) ?_) ?_
  · rintro e A' w' ⟨s', hq, hr'⟩
    cases e with
    | goto l' =>
      obtain ⟨rfl, b, hb, hl⟩ := hq
      exact ⟨rfl, μ b, b, hb, rfl, s', hl, hr'⟩
    | _ => exact ⟨s', hq, hr'⟩
  · intro A1 w1 hJ
    have hsp := Classical.choose_spec (least_of hJ)
    obtain ⟨⟨a, ha, hma, s', hl, hr1⟩, hmin⟩ := hsp
    refine wp_mono (AWp.weaken hl (pass a ha) A1 w1 hr1) ?_
    rintro e A' w' ⟨s'', hq, hr'⟩
    cases e with
    | goto l' =>
      obtain ⟨rfl, b, hb, hm, hl'⟩ := hq
      have hR : R A' w' (μ b) := ⟨b, hb, rfl, s'', hl', hr'⟩
      have hJ' : ∃ n, R A' w' n := ⟨_, hR⟩
      refine ⟨rfl, hJ', ?_⟩
      rw [dif_pos hJ', dif_pos hJ]
      have := (Classical.choose_spec (least_of hJ')).2 _ hR
      omega
    | _ => exact ⟨s'', hq, hr'⟩
def ltO {α : Type} (L : Lp α) : Option α → α → Prop
  | none, _ => True
  | some a, b => L.μ b < L.μ a
def QF (c : Cx) (P : Program) (Q : Exit → FS → Prop) : List Fr → Exit → FS → Prop
  | [] => Q
  | .k y :: r => thenQ (AWp c P y (QF c P Q r)) (QF c P Q r)
  | .blk id :: r => blockQ id (QF c P Q r)
  | .lp L a :: r => thenQ (fun s' => ∃ b, L.H b ∧ L.μ b < L.μ a ∧ s'.le' (L.st b).fs) (QF c P Q r)
  | .jn J :: r => thenQ (fun s' => ∃ b, J.H b ∧ s'.le' (J.st b).fs) (QF c P Q r)
  | .jmp l L m :: r => jmpQ l (fun s' => ∃ b, L.H b ∧ ltO L m b ∧ s'.le' (L.st b).fs) (QF c P Q r)
  | .scp :: r => noGotoQ (QF c P Q r)
def popJ (l : Nat) : List Fr → Option Fr
  | [] => none
  | .jmp l' L m :: _ => bif Nat.beq l' l then some (.jmp l' L m) else none
  | .scp :: _ => none
  | .k _ :: r => popJ l r
  | .blk _ :: r => popJ l r
  | .lp _ _ :: r => popJ l r
  | .jn _ :: r => popJ l r
theorem QF_goto {c : Cx} {P : Program} {Q : Exit → FS → Prop} {s : FS} {l : Nat} {α : Type} {l' : Nat} {L : Lp α} {m : Option α} (hq : ∃ b, L.H b ∧ ltO L m b ∧ s.le' (L.st b).fs) : ∀ {fr : List Fr}, popJ l fr = some (.jmp l' L m) → QF c P Q fr (.goto l) s
  | [], h => by cases h
  | .k _ :: r, h => QF_goto (fr := r) hq h
  | .blk _ :: r, h => QF_goto (fr := r) hq h
  | .lp .. :: r, h => QF_goto (fr := r) hq h
  | .jn .. :: r, h => QF_goto (fr := r) hq h
  | .scp :: r, h => by cases h
  | .jmp l2 L2 m2 :: r, h => by
    simp only [popJ] at h
    cases hb : Nat.beq l2 l with
    | true =>
      rw [hb] at h
      simp only [cond_true, Option.some.injEq, Fr.jmp.injEq] at h
      obtain ⟨rfl, rfl, h2, h3⟩ := h
      cases h2; cases h3
      exact ⟨(Nat.eq_of_beq_eq_true hb).symm, hq⟩
    | false => rw [hb] at h; cases h
def popX (id : Nat) : List Fr → Option (List Fr)
  | [] => none
  | .blk i :: r => bif Nat.beq i id then some r else popX id r
  | _ :: r => popX id r
theorem QF_ret {c : Cx} {P : Program} {Q : Exit → FS → Prop} {s : FS} (h : Q .ret s) : ∀ fr, QF c P Q fr .ret s
  | [] => h
  | .k _ :: r => QF_ret h r
  | .blk _ :: r => QF_ret h r
  | .lp .. :: r => QF_ret h r
  | .jn .. :: r => QF_ret h r
  | .jmp .. :: r => QF_ret h r
  | .scp :: r => QF_ret h r
theorem QF_exit {c : Cx} {P : Program} {Q : Exit → FS → Prop} {s : FS} {id : Nat} : ∀ {fr fr' : List Fr}, popX id fr = some fr' → QF c P Q fr' .normal s → QF c P Q fr (.exit id) s
  | [], fr', h, _ => by cases h
  | .k _ :: r, fr', h, hq => QF_exit (fr := r) h hq
  | .lp .. :: r, fr', h, hq => QF_exit (fr := r) h hq
  | .jn .. :: r, fr', h, hq => QF_exit (fr := r) h hq
  | .jmp .. :: r, fr', h, hq => QF_exit (fr := r) h hq
  | .scp :: r, fr', h, hq => QF_exit (fr := r) h hq
  | .blk i :: r, fr', h, hq => by
    simp only [popX] at h
    show blockQ i _ (.exit id) s
    simp only [blockQ]
    cases hb : Nat.beq i id with
    | true =>
      rw [hb] at h
      obtain rfl := Option.some.inj h
      obtain rfl := Nat.eq_of_beq_eq_true hb
      rw [Nat.beq_refl]
      exact hq
    | false =>
      rw [hb] at h
      have : Nat.beq id i = false := nbeq fun e => by rw [e, Nat.beq_refl] at hb; cases hb
      rw [this]
      exact QF_exit (fr := r) h hq
def fzL (f : AV → List Prop × AV) : List AV → List Prop × List AV
  | [] => ([], [])
  | x :: r => ((f x).1 ++ (fzL f r).1, (f x).2 :: (fzL f r).2)
def fzA (y : Bx) (id : Nat) : Nat → AV → List Prop × AV
  | 0, _ => ([], .any)
  | n + 1, x =>
    match x with
    | .rw i V m => bif Nat.beq i id then (match y with | .row V' _ k xs => ([V' = V, m = xs.length], .sl k false xs) | _ => ([], .any)) else ([], x)
    | .ptr i b off => bif Nat.beq i id then (match y with | .box b' _ cs => ([b' = b], .dptr (cs.drop off)) | _ => ([], .any)) else ([], x)
    | .mref i r => bif Nat.beq i id then (match y with | .mp r' es => ([r' = r], .mp es) | _ => ([], .any)) else ([], x)
    | .agg cs => ((fzL (fzA y id n) cs).1, .agg (fzL (fzA y id n) cs).2)
    | .clo f cs => ((fzL (fzA y id n) cs).1, .clo f (fzL (fzA y id n) cs).2)
    | x => ([], x)
theorem fzL_ok {y : Bx} {f : AV → List Prop × AV} (hf : ∀ x, allP (f x).1 → FzS y x (f x).2) : ∀ cs, allP (fzL f cs).1 → FzAll y cs (fzL f cs).2
  | [], _ => trivial
  | x :: r, h => ⟨hf x (allP_append h).1, fzL_ok hf r (allP_append h).2⟩
theorem fzA_ok {y : Bx} {id : Nat} : ∀ (n : Nat) (x : AV), allP (fzA y id n x).1 → FzS y x (fzA y id n x).2
  | 0, x, _ => Fz.any _ _
  | n + 1, x, h => by
    unfold fzA at h ⊢
    split
    · rename_i i V m
      cases hb : Nat.beq i id with
      | false => simp only [hb, cond_false]; exact Fz.refl _ _
      | true =>
        simp only [hb, cond_true] at h ⊢
        cases y with
        | row V' e k xs =>
          obtain ⟨h1, h2, _⟩ := h
          subst h1
          exact Fz.row _ _ _ _ _ _ h2
        | _ => exact Fz.any _ _
    · rename_i i b off
      cases hb : Nat.beq i id with
      | false => simp only [hb, cond_false]; exact Fz.refl _ _
      | true =>
        simp only [hb, cond_true] at h ⊢
        cases y with
        | box b' T cs =>
          obtain ⟨h1, _⟩ := h
          subst h1
          exact Fz.ptr _ _ _ _ _
        | _ => exact Fz.any _ _
    · rename_i i r
      cases hb : Nat.beq i id with
      | false => simp only [hb, cond_false]; exact Fz.refl _ _
      | true =>
        simp only [hb, cond_true] at h ⊢
        cases y with
        | mp r' es =>
          obtain ⟨h1, _⟩ := h
          subst h1
          exact Fz.mref _ _ _
        | _ => exact Fz.any _ _
    · rename_i cs
      exact Fz.aggs (fzL_ok (fzA_ok n) cs h)
    · rename_i f cs
      exact Fz.clo (fzL_ok (fzA_ok n) cs h)
    · exact Fz.refl _ _
def fzTs (y : Bx) (id : Nat) (s : LS) : List Nat → List Prop × List (Nat × AV)
  | [] => ([], [])
  | t :: r => ((fzA y id 6 (lget s.tm t)).1 ++ (fzTs y id s r).1, (t, (fzA y id 6 (lget s.tm t)).2) :: (fzTs y id s r).2)
def fzBx (y : Bx) (id : Nat) : Bx → List Prop × Bx
  | .box b T cs => ((fzL (fzA y id 6) cs).1, .box b T (fzL (fzA y id 6) cs).2)
  | z => ([], z)
def fzBL (y : Bx) (id : Nat) (s : LS) : List Nat → Option (List Prop × List (Nat × Bx))
  | [] => some ([], [])
  | i :: r =>
    match bget s.bx i, fzBL y id s r with
    | some z, some (ps, l) => bif Nat.beq i id then none else some ((fzBx y id z).1 ++ ps, (i, (fzBx y id z).2) :: l)
    | _, _ => none
theorem fzTs_ok {y : Bx} {id : Nat} {s : LS} : ∀ ts, allP (fzTs y id s ts).1 → fzT y s (fzTs y id s ts).2
  | [], _ => trivial
  | t :: r, h => ⟨fzA_ok 6 _ (allP_append h).1, fzTs_ok r (allP_append h).2⟩
theorem fzBL_ok {y : Bx} {id : Nat} {s : LS} : ∀ {bs : List Nat} {ps : List Prop} {l : List (Nat × Bx)}, fzBL y id s bs = some (ps, l) → allP ps → fzBs y id s l
  | [], ps, l, h, _ => by
    simp only [fzBL, Option.some.injEq, Prod.mk.injEq] at h
    obtain ⟨rfl, rfl⟩ := h
    trivial
  | i :: r, ps, l, h, hp => by
    simp only [fzBL] at h
    split at h
    · rename_i z qs m hz hr
      cases hb : Nat.beq i id with
      | true => rw [hb] at h; cases h
      | false =>
        rw [hb] at h
        simp only [cond_false, Option.some.injEq, Prod.mk.injEq] at h
        obtain ⟨rfl, rfl⟩ := h
        obtain ⟨p1, p2⟩ := allP_append hp
        refine ⟨⟨hb, z, hz, ?_⟩, fzBL_ok hr p2⟩
        cases z with
        | box b T cs => exact .box b T cs _ (fzL_ok (fzA_ok 6) cs p1)
        | _ => exact .refl _
    · cases h
def nmT (s : LS) : List (Nat × AV) → List (Nat × AV)
  | [] => []
  | (t, _) :: r => (t, lget s.tm t) :: nmT s r
def nmB (s : LS) : List (Nat × Bx) → Option (List (Nat × Bx))
  | [] => some []
  | (i, _) :: r =>
    match bget s.bx i, nmB s r with
    | some z, some l => some ((i, z) :: l)
    | _, _ => none
def nmS (s t : LS) : Option LS :=
  match nmB s t.bx with
  | some l => some ⟨nmT s t.tm, l⟩
  | none => none
theorem lget_nmT {s : LS} : ∀ {l : List (Nat × AV)} {t : Nat}, t ∈ l.map Prod.fst → lget (nmT s l) t = lget s.tm t
  | (k, x) :: r, t, h => by
    simp only [nmT, lget]
    cases hb : Nat.beq k t with
    | true => obtain rfl := Nat.eq_of_beq_eq_true hb; rfl
    | false =>
      refine lget_nmT (l := r) ?_
      rcases List.mem_cons.1 h with h | h
      · simp only at h; rw [h, Nat.beq_refl] at hb; cases hb
      · exact h
theorem bget_nmB {s : LS} : ∀ {l m : List (Nat × Bx)} {t : Nat}, nmB s l = some m → t ∈ l.map Prod.fst → bget m t = bget s.bx t
  | (k, x) :: r, m, t, h, ht => by
    simp only [nmB] at h
    split at h
    · rename_i z l' hz hl
      obtain rfl := Option.some.inj h
      simp only [bget]
      cases hb : Nat.beq k t with
      | true => obtain rfl := Nat.eq_of_beq_eq_true hb; exact hz.symm
      | false =>
        refine bget_nmB hl ?_
        rcases List.mem_cons.1 ht with h | h
        · simp only at h; rw [h, Nat.beq_refl] at hb; cases hb
        · exact h
    · cases h
theorem leT_nm {s s0 t : LS} (ho : nmS s t = some s0) : ∀ {l : List (Nat × AV)}, (∀ p ∈ l, p.1 ∈ t.tm.map Prod.fst) → leT s0 l → leT s l
  | [], _, _ => trivial
  | (k, x) :: r, hm, h => by
    refine ⟨?_, leT_nm ho (fun p hp => hm p (List.mem_cons_of_mem _ hp)) h.2⟩
    have h1 := h.1
    unfold nmS at ho
    split at ho
    · rename_i l hl
      obtain rfl := Option.some.inj ho
      have e := lget_nmT (s := s) (hm (k, x) (List.mem_cons_self ..))
      rw [← e]
      exact h1
    · cases ho
theorem leB_nm {s s0 t : LS} (ho : nmS s t = some s0) : ∀ {l : List (Nat × Bx)}, (∀ p ∈ l, p.1 ∈ t.bx.map Prod.fst) → leB s0 l → leB s l
  | [], _, _ => trivial
  | (k, x) :: r, hm, h => by
    refine ⟨?_, leB_nm ho (fun p hp => hm p (List.mem_cons_of_mem _ hp)) h.2⟩
    have h1 := h.1
    unfold nmS at ho
    split at ho
    · rename_i l hl
      obtain rfl := Option.some.inj ho
      have e := bget_nmB hl (hm (k, x) (List.mem_cons_self ..))
      rw [← e]
      exact h1
    · cases ho
theorem le_nm {s s0 t : LS} (ho : nmS s t = some s0) (h1 : leT s0 t.tm) (h2 : leB s0 t.bx) : s.fs.le' t.fs :=
  LS.le (leT_nm ho (fun p hp => List.mem_map_of_mem hp) h1) (leB_nm ho (fun p hp => List.mem_map_of_mem hp) h2)
inductive Nx (P : Program) : Type 1 where
  | no
  | yes
  | go (E : Prop) (k : Ct P) (m : Nat) (s : LS)
  | nat (k : Nat → Ct P) (f : Nat → LS)
  | vl (E : Prop) (k : Value → Ct P) (f : Value → LS)
  | bl (E : Prop) (xs : List (List AV)) (k : ∀ b : Bool, (b = true → xs = []) → Ct P) (f : Bool → LS)
  | elm (β : Type) (E : Prop) (h : β → Prop) (k : ∀ x, h x → Ct P) (f : β → LS)
  | br (E : Prop) (b : Bool) (k1 : b = true → Ct P) (k2 : b = false → Ct P) (s1 s2 : LS)
  | ex (β : Type) (p : β → Prop) (k : ∀ x, p x → Ct P) (s : LS)
  | fam (α : Type) (E : Prop) (k : α → Ct P) (m : Nat) (f : α → LS)
def nxP {P : Program} (G : Ct P → Nat → LS → Prop) : Nx P → Prop
  | .no => False
  | .yes => True
  | .go E k m s => E ∧ G k m s
  | .nat k f => ∀ b, G (k b) 1 (f b)
  | .vl E k f => E ∧ ∀ V, G (k V) 1 (f V)
  | .bl E xs k f => E ∧ ∀ b h, G (k b h) 1 (f b)
  | .elm β E h k f => E ∧ ∀ x hx, G (k x hx) 1 (f x)
  | .br E b k1 k2 s1 s2 => E ∧ (∀ h, G (k1 h) 0 s1) ∧ ∀ h, G (k2 h) 0 s2
  | .ex β p k s => ∀ x hx, G (k x hx) 0 s
  | .fam α E k m f => E ∧ ∀ a, G (k a) m (f a)
def entB (P : Program) (f : FuncId) : Bool :=
  match P.funcs[f]? with
  | some F => F.body.isSome && !(F.name == "runtime.NumGoroutine")
  | none => false
theorem entB_ok {P : Program} {f : FuncId} (h : entB P f = true) : ∀ vs w, (callFunc f vs).run P w = .ok (.enter f vs) w := fun vs w => by
  unfold entB at h
  split at h
  · rename_i F hF
    simp only [Bool.and_eq_true, Bool.not_eq_true'] at h
    obtain ⟨h0, h2⟩ := h
    have h3 : F.name ≠ "runtime.NumGoroutine" := by simpa using h2
    have h1 : F.body ≠ none := fun e => by rw [e] at h0; cases h0
    simp [callFunc, hF, h3, h1]
  · cases h
def stateN {P : Program} (ct : Ct P) (s : LS) : Nx P :=
  match ct with
  | .is (b := b) (v := v) t h k =>
    match lget s.tm t with
    | .val (.bool b') => .go (b' = b) k 0 (s.put (some t) (.val (.bool v)))
    | _ => .no
  | .br t b k1 k2 =>
    match lget s.tm t with
    | .val (.bool b') => .br (b' = b) b k1 k2 (s.put (some t) (.val (.bool true))) (s.put (some t) (.val (.bool false)))
    | _ => .no
  | .val (x := x) (y := y) t h k => .go (lget s.tm t = x) k 0 (s.put (some t) y)
  | .ex (β := β) (p := p) h c => .ex β p c s
  | .no h => .yes
  | _ => .no
def stepN (P : Program) (ops : Array Oper) (i : Nat) (rest : List Nat) (ct : Ct P) (s : LS) : Nx P :=
  match ct with
  | .run n ps hp k =>
    match runD P ops ((i :: rest).take n) s with
    | some (ps', s') => .go (ps' = ps) k n s'
    | none => .no
  | .new k =>
    match newO P ops s i with
    | some f => .nat k f
    | none => .no
  | .call (f := g) (args := as) (r := r) h k =>
    match callO ops s i with
    | some (f, args, d) => bif entB P f then .go ((f, args) = (g, as)) k 1 (s.put d r) else .no
    | none => .no
  | .callS (f := g) (args0 := as) (r := r) hs h k =>
    match callO ops s i with
    | some (f, args, d) => bif entB P f then .go ((f, args) = (g, as)) k 1 (s.put d r) else .no
    | none => .no
  | .callRow (f := g) (args0 := as) (e := e) (k := k) (xs := xs) hs hk h c =>
    match callO ops s i with
    | some (f, args, some d) =>
      match bget s.bx d with
      | none => bif entB P f then .vl ((f, args) = (g, as)) c (fun V => (s.put (some d) (.rw d V xs.length)).setB d (.row V e k xs)) else .no
      | some _ => .no
    | _ => .no
  | .idx (m := m) (xs := xs) (e := e) j hm he k =>
    match idxO P ops s i with
    | some (xs', m', d) => .go ((xs', m') = (xs, m)) k 1 (s.put d (.dptr e))
    | none => .no
  | .idxM (β := β) (m := m) l f j hm hj c =>
    match idxO P ops s i with
    | some (xs', m', d) => .elm β ((xs', m') = (l.map f, m)) (fun x => l[j]? = some x) c fun x => s.put d (.dptr (f x))
    | none => .no
  | .slc kk tt xs l h m a b t' hlo hhi hmx hab hbn k =>
    match slcO P ops s i with
    | some (.sl kk' tt' xs', l', h', m', d) => .go ((kk', tt', xs', l', h', m') = (kk, tt, xs, l, h, m)) k 1 (s.put d (.sl kk t' ((xs.take b).drop a)))
    | _ => .no
  | .slcS tx l h a b hlo hhi hab hbn k =>
    match slcO P ops s i with
    | some (.val (.string ⟨⟨tx'⟩⟩), l', h', none, d) => .go ((tx', l', h') = (tx, l, h)) k 1 (s.put d (.val (.string ⟨⟨(tx.take b).drop a⟩⟩)))
    | _ => .no
  | .app bytes V xs ys h63 hby c =>
    match appO ops s i with
    | some (t, .rw id V' n, .sl k tt ys', some d) =>
      match bget s.bx id with
      | some (.row V'' e k' xs') => bif Nat.beq k k' && elemB P t e k bytes then
          .vl ((V', V'', xs', ys') = (V, V, xs, ys)) c (fun V' => (s.put (some d) (.rw id V' (xs.length + ys.length))).setB id (.row V' e k (xs ++ ys))) else .no
      | _ => .no
    | _ => .no
  | .appNew (x0 := x0) bytes kk xs ys hs h1 hk h63 hby c =>
    match appO ops s i with
    | some (t, x0', .sl k tt ys', some d) =>
      match elemP P t, bget s.bx d with
      | some e, none => bif Nat.beq k kk && elemB P t e kk bytes then
          .vl ((x0', ys') = (x0, ys)) c (fun V' => (s.put (some d) (.rw d V' (xs ++ ys).length)).setB d (.row V' e kk (xs ++ ys))) else .no
      | _, _ => .no
    | _ => .no
  | .appNone bytes k =>
    match appO ops s i with
    | some (t, .sl kk t0 xs, .sl k' tt [], d) =>
      match elemP P t with
      | some e => bif Nat.beq k' kk && elemB P t e kk bytes then .go True k 1 (s.put d (.sl kk t0 xs)) else .no
      | none => .no
    | _ => .no
  | .isNil xs c =>
    match nilO P ops s i with
    | some (k, tt, xs', d) => .bl (xs' = xs) xs c fun b => s.put (some d) (.val (.bool b))
    | none => .no
  | .mk0 (m := m) bytes cap hm hby h63 c =>
    match mkO ops s i with
    | some (t, m', d) =>
      match elemP P t, bget s.bx d with
      | some e, none =>
        match szP P e with
        | some k => bif elemB P t e k bytes then .vl (m' = m) c (fun V' => (s.put (some d) (.rw d V' 0)).setB d (.row V' e k [])) else .no
        | none => .no
      | _, _ => .no
    | none => .no
  | .lit0 c =>
    match litO P ops s i with
    | some (e, k, d) =>
      match bget s.bx d with
      | none => .vl True c fun V' => (s.put (some d) (.rw d V' 0)).setB d (.row V' e k [])
      | some _ => .no
    | none => .no
  | .litN c =>
    match litN P ops s i with
    | some (e, k, d, n, cs) =>
      match bget s.bx d with
      | none => .vl True c fun V' => (s.put (some d) (.rw d V' n)).setB d (.row V' e k (chunks k cs n))
      | some _ => .no
    | none => .no
  | .mkMap c =>
    match mkM P ops s i with
    | some d => .nat c fun r => (s.put (some d) (.mref d r)).setB d (.mp r [])
    | none => .no
  | .ins (kk := kk) (es := es) r hn k =>
    match insO P ops s i with
    | some (kt, id, r1, kk', x, none) =>
      match bget s.bx id with
      | some (.mp r2 es') => bif (es'.all fun p => keyOk P kt p.1) && keyOk P kt kk' then .go ((r1, r2, kk', es') = (r, r, kk, es)) k 1 (s.setB id (.mp r2 (es' ++ [(kk', x)]))) else .no
      | _ => .no
    | _ => .no
  | .look (kk := kk) (es := es) (fd := fd) hn k =>
    match lkO P ops s i with
    | some (kt, e, es', kk', ok, d) =>
      match (P.info? e).bind (·.zero) with
      | some zv => bif (es'.all fun p => keyOk P kt p.1) && keyOk P kt kk' then .go ((kk', es') = (kk, es)) k 1 (s.put d (lkRes ok (fdV fd zv) fd.isSome)) else .no
      | none => .no
    | none => .no
  | .eqS k =>
    match eqO P ops s i with
    | some (d, b) => .go True k 1 (s.put (some d) (.val (.bool b)))
    | none => .no
  | .binV (a := a) (b := b) (x := x) op t h k =>
    match opAt ops s i with
    | some o =>
      match o.op with
      | .binOp op' t' xo yo _ => .go ((op', t', s.ev xo, s.ev yo) = (op, t, a, b)) k 1 (s.put o.dst x)
      | _ => .no
    | none => .no
  | .byte (m := m) (tx := tx) j hm hj c =>
    match opAt ops s i with
    | some o =>
      match o.op with
      | .index t x n =>
        match P.underlying t, s.ev x, s.ev n with
        | some .string, .val (.string ⟨⟨tx'⟩⟩), .val (.int .i64 m') => .elm UInt8 ((tx', m') = (tx, m)) (fun c => tx[j]? = some c) c fun c => s.put o.dst (.val (.int .u8 (c.toNat : Int)))
        | _, _, _ => .no
      | _ => .no
    | none => .no
  | .op (α := α) rd b upd h k => .fam α (rd ops s i = some b) k 1 fun a => upd a s
  | ct => stateN ct s
def codeN (P : Program) (ct : Ct P) (s : LS) : Nx P :=
  match ct with
  | .frz id ts bs ps hp k =>
    match bget s.bx id with
    | some y =>
      match fzBL y id s bs with
      | some (qs, l) => .go ((fzTs y id s ts).1 ++ qs = ps) k 0 ⟨(fzTs y id s ts).2, l⟩
      | none => .no
    | none => .no
  | .rowNil id t e k c =>
    match bget s.bx id, lget s.tm t with
    | none, .val (.slice none 0 0) => .go True c 0 ((s.setB id (.row (.slice none 0 0) e k [])).put (some t) (.rw id (.slice none 0 0) 0))
    | _, _ => .no
  | .rowNilB id q j e k c =>
    match bget s.bx id, bget s.bx q with
    | none, some (.box b T cs) =>
      (match cs[j]? with
      | some (.val (.slice none 0 0)) => bif Nat.beq id q then .no else .go True c 0 ((s.setB id (.row (.slice none 0 0) e k [])).setB q (.box b T (cs.set j (.rw id (.slice none 0 0) 0))))
      | _ => .no)
    | _, _ => .no
  | .st (α := α) rd b upd h k => .fam α (rd s = some b) k 0 fun a => upd a s
  | ct => stateN ct s
theorem subAll_refl : ∀ xs : List AV, SubAll xs xs
  | [] => trivial
  | x :: r => ⟨Sub.refl x, subAll_refl r⟩
theorem stateN_ok {P : Program} {ops : Array Oper} {K : FS → Prop} {r : List Nat} {ct : Ct P} {s : LS} {G : Ct P → Nat → LS → Prop} (h : nxP G (stateN ct s))
    (hG : ∀ k m s', G k m s' → SeqR P ops K (r.drop m) s'.fs) : SeqR P ops K r s.fs := by
  unfold stateN at h
  split at h
  · rename_i t b v hv k
    split at h
    · rename_i b' hb
      obtain ⟨rfl, h⟩ := h
      exact seq_bool t hv hb rfl (hG _ _ _ h)
    · exact h.elim
  · rename_i t b k1 k2
    split at h
    · rename_i b' hb
      obtain ⟨rfl, h1, h2⟩ := h
      cases hc : b' with
      | true => exact seq_bool t hc hb rfl (hG _ _ _ (h1 hc))
      | false => exact seq_bool t hc hb rfl (hG _ _ _ (h2 hc))
    · exact h.elim
  · rename_i t x y hv k
    obtain ⟨e, h⟩ := h
    exact seq_val t hv e rfl (hG _ _ _ h)
  · rename_i β p he c
    obtain ⟨x, hx⟩ := he
    exact hG _ _ _ (h x hx)
  · rename_i hf
    exact hf.elim
  · exact h.elim
theorem stepN_ok {P : Program} {ops : Array Oper} {K : FS → Prop} {i : Nat} {rest : List Nat} {ct : Ct P} {s : LS} {G : Ct P → Nat → LS → Prop} (h : nxP G (stepN P ops i rest ct s))
    (hG : ∀ k m s', G k m s' → SeqR P ops K ((i :: rest).drop m) s'.fs) : SeqR P ops K (i :: rest) s.fs := by
  unfold stepN at h
  split at h
  · rename_i n ps hp k
    split at h
    · rename_i ps' s' hr
      obtain ⟨rfl, h⟩ := h
      have := seq_run (r := (i :: rest).drop n) _ hr hp (hG _ _ _ h)
      rwa [List.take_append_drop] at this
    · exact h.elim
  · rename_i k
    split at h
    · rename_i f hf
      exact seq_new hf fun b => hG _ _ _ (h b)
    · exact h.elim
  · rename_i g as r hs k
    split at h
    · rename_i f args d hc
      cases he : entB P f with
      | false => rw [he] at h; exact h.elim
      | true =>
        rw [he] at h
        obtain ⟨e, h⟩ := h
        obtain ⟨rfl, rfl⟩ := Prod.mk.inj e
        exact seq_call hc (entB_ok he) (subAll_refl _) hs rfl (hG _ _ _ h)
    · exact h.elim
  · rename_i g as as' r hsub hs k
    split at h
    · rename_i f args d hc
      cases he : entB P f with
      | false => rw [he] at h; exact h.elim
      | true =>
        rw [he] at h
        obtain ⟨e, h⟩ := h
        obtain ⟨rfl, rfl⟩ := Prod.mk.inj e
        exact seq_call hc (entB_ok he) hsub hs rfl (hG _ _ _ h)
    · exact h.elim
  · rename_i g as as' e k xs hsub hk hs c
    split at h
    · rename_i f args d hc
      split at h
      · rename_i hn
        cases he : entB P f with
        | false => rw [he] at h; exact h.elim
        | true =>
          rw [he] at h
          obtain ⟨e', h⟩ := h
          obtain ⟨rfl, rfl⟩ := Prod.mk.inj e'
          exact seq_callRow hc (entB_ok he) hsub hk hs hn (fun _ => rfl) fun V => hG _ _ _ (h V)
      · exact h.elim
    · exact h.elim
  · rename_i j m xs e hm he k
    split at h
    · rename_i xs' m' d hi
      obtain ⟨e', h⟩ := h
      obtain ⟨rfl, rfl⟩ := Prod.mk.inj e'
      exact seq_idx j hi hm he rfl (hG _ _ _ h)
    · exact h.elim
  · rename_i β l f j m hm hj c
    split at h
    · rename_i xs' m' d hi
      obtain ⟨e', h⟩ := h
      obtain ⟨rfl, rfl⟩ := Prod.mk.inj e'
      obtain ⟨x, hx⟩ := some_of hj
      exact seq_idx j hi hm (map_some hx) rfl (hG _ _ _ (h x hx))
    · exact h.elim
  · rename_i kk tt xs l hh m a b t' hlo hhi hmx hab hbn k
    split at h
    · rename_i kk' tt' xs' l' h' m' d hi
      obtain ⟨e', h⟩ := h
      simp only [Prod.mk.injEq] at e'
      obtain ⟨rfl, rfl, rfl, rfl, rfl, rfl⟩ := e'
      exact seq_slc a b t' hi hlo hhi hmx hab hbn rfl (hG _ _ _ h)
    · exact h.elim
  · rename_i tx l hh a b hlo hhi hab hbn k
    split at h
    · rename_i tx' l' h' d hi
      obtain ⟨e', h⟩ := h
      simp only [Prod.mk.injEq] at e'
      obtain ⟨rfl, rfl, rfl⟩ := e'
      exact seq_slcS a b hi hlo hhi hab hbn rfl (hG _ _ _ h)
    · exact h.elim
  · rename_i bytes V xs ys h63 hby c
    split at h
    · rename_i t id V' n k tt ys' d hi
      split at h
      · rename_i V'' e k' xs' hb
        cases hc : (Nat.beq k k' && elemB P t e k bytes) with
        | false => rw [hc] at h; exact h.elim
        | true =>
          rw [hc] at h
          obtain ⟨e', h⟩ := h
          simp only [Prod.mk.injEq] at e'
          obtain ⟨rfl, rfl, rfl, rfl⟩ := e'
          simp only [Bool.and_eq_true] at hc
          obtain rfl := Nat.eq_of_beq_eq_true hc.1
          exact seq_append hi hb hc.2 h63 hby (fun _ => rfl) fun V => hG _ _ _ (h V)
      · exact h.elim
    · exact h.elim
  · rename_i bytes kk x0 xs ys hs h1 hk h63 hby c
    split at h
    · rename_i t x0' k tt ys' d hi
      split at h
      · rename_i e he hn
        cases hc : (Nat.beq k kk && elemB P t e kk bytes) with
        | false => rw [hc] at h; exact h.elim
        | true =>
          rw [hc] at h
          obtain ⟨e', h⟩ := h
          simp only [Prod.mk.injEq] at e'
          obtain ⟨rfl, rfl⟩ := e'
          simp only [Bool.and_eq_true] at hc
          obtain rfl := Nat.eq_of_beq_eq_true hc.1
          exact seq_appendNew hi hs hn h1 hk hc.2 h63 hby (fun _ => rfl) fun V => hG _ _ _ (h V)
      · exact h.elim
    · exact h.elim
  · rename_i bytes k
    split at h
    · rename_i t kk t0 xs k' tt d hi
      split at h
      · rename_i e he
        cases hc : (Nat.beq k' kk && elemB P t e kk bytes) with
        | false => rw [hc] at h; exact h.elim
        | true =>
          rw [hc] at h
          simp only [Bool.and_eq_true] at hc
          obtain rfl := Nat.eq_of_beq_eq_true hc.1
          exact seq_appendNone hi hc.2 rfl (hG _ _ _ h.2)
      · exact h.elim
    · exact h.elim
  · rename_i xs c
    split at h
    · rename_i k tt xs' d hi
      obtain ⟨rfl, h⟩ := h
      exact seqNil hi (fun _ => rfl) fun b hb => hG _ _ _ (h b hb)
    · exact h.elim
  · rename_i bytes cap m hm hby h63 c
    split at h
    · rename_i t m' d hi
      split at h
      · rename_i e he hn
        split at h
        · rename_i k hk
          cases hc : elemB P t e k bytes with
          | false => rw [hc] at h; exact h.elim
          | true =>
            rw [hc] at h
            obtain ⟨rfl, h⟩ := h
            exact seqMake hi hm hn hc hby h63 (fun _ => rfl) fun V => hG _ _ _ (h V)
        · exact h.elim
      · exact h.elim
    · exact h.elim
  · rename_i c
    split at h
    · rename_i e k d hi
      split at h
      · rename_i hn
        exact seqLit0 hi hn (fun _ => rfl) fun V => hG _ _ _ (h.2 V)
      · exact h.elim
    · exact h.elim
  · rename_i c
    split at h
    · rename_i e k d n cs hi
      split at h
      · rename_i hn
        exact seqLitN hi hn (fun _ => rfl) fun V => hG _ _ _ (h.2 V)
      · exact h.elim
    · exact h.elim
  · rename_i c
    split at h
    · rename_i d hi
      exact seqMkMap hi (fun _ => rfl) fun V => hG _ _ _ (h V)
    · exact h.elim
  · rename_i r kk es hn k
    split at h
    · rename_i kt id r1 kk' x hi
      split at h
      · rename_i r2 es' hb
        cases hc : ((es'.all fun p => keyOk P kt p.1) && keyOk P kt kk') with
        | false => rw [hc] at h; exact h.elim
        | true =>
          rw [hc] at h
          obtain ⟨e', h⟩ := h
          simp only [Prod.mk.injEq] at e'
          obtain ⟨rfl, h2, rfl, rfl⟩ := e'
          simp only [Bool.and_eq_true] at hc
          exact seqIns hi hb h2 hc.1 hc.2 hn rfl (hG _ _ _ h)
      · exact h.elim
    · exact h.elim
  · rename_i kk es fd hn k
    split at h
    · rename_i kt e es' kk' ok d hi
      split at h
      · rename_i zv hz
        cases hc : ((es'.all fun p => keyOk P kt p.1) && keyOk P kt kk') with
        | false => rw [hc] at h; exact h.elim
        | true =>
          rw [hc] at h
          obtain ⟨e', h⟩ := h
          simp only [Prod.mk.injEq] at e'
          obtain ⟨rfl, rfl⟩ := e'
          simp only [Bool.and_eq_true] at hc
          exact seqLook fd zv hi hc.1 hc.2 hz hn rfl (hG _ _ _ h)
      · exact h.elim
    · exact h.elim
  · rename_i k
    split at h
    · rename_i d b hi
      exact seqEqS hi rfl (hG _ _ _ h.2)
    · exact h.elim
  · rename_i op t a b x hv k
    split at h
    · rename_i o ho
      split at h
      · rename_i op' t' xo yo ty hop
        obtain ⟨e', h⟩ := h
        simp only [Prod.mk.injEq] at e'
        obtain ⟨rfl, rfl, rfl, rfl⟩ := e'
        obtain ⟨hi, hg⟩ := opAt_ok ho
        refine ⟨o, hi, .inr ⟨hg, .inl ⟨x, .inl fun D w ρ hops => ?_, by rw [LS.fs_put]; exact hG _ _ _ h⟩⟩⟩
        obtain ⟨r, h1, h2⟩ := hv D w xo yo _ _ (arg_of hops xo (by simp [hop, Op.operands])) (arg_of hops yo (by simp [hop, Op.operands]))
        refine ⟨r, ?_, h2⟩
        simp only [execOp, hop, Sem.run_bind] at h1 ⊢
        simp [h1]
      · exact h.elim
    · exact h.elim
  · rename_i j m tx hm hj c
    split at h
    · rename_i o ho
      split at h
      · rename_i t x n hop
        split at h
        · rename_i tx' m' hu hx hn
          obtain ⟨e', h⟩ := h
          simp only [Prod.mk.injEq] at e'
          obtain ⟨rfl, rfl⟩ := e'
          obtain ⟨b, hb⟩ := some_of hj
          exact seq_byte (d := none) j b ho hop hu hx hn hm hb rfl (hG _ _ _ (h b hb))
        · exact h.elim
      · exact h.elim
    · exact h.elim
  · rename_i rd b upd hh k
    exact hh ops i s K rest h.1 fun a => hG _ _ _ (h.2 a)
  · exact stateN_ok h hG
theorem stateN_awp {P : Program} {c : Cx} {code : Code} {Q : Exit → FS → Prop} {ct : Ct P} {s : LS} {G : Ct P → Nat → LS → Prop} (h : nxP G (stateN ct s))
    (hG : ∀ k m s', G k m s' → AWp c P code Q s'.fs) : AWp c P code Q s.fs := by
  unfold stateN at h
  split at h
  · rename_i t b v hv k
    split at h
    · rename_i b' hb
      obtain ⟨rfl, h⟩ := h
      exact awp_bool t hv hb rfl (hG _ _ _ h)
    · exact h.elim
  · rename_i t b k1 k2
    split at h
    · rename_i b' hb
      obtain ⟨rfl, h1, h2⟩ := h
      cases hc : b' with
      | true => exact awp_bool t hc hb rfl (hG _ _ _ (h1 hc))
      | false => exact awp_bool t hc hb rfl (hG _ _ _ (h2 hc))
    · exact h.elim
  · rename_i t x y hv k
    obtain ⟨e, h⟩ := h
    refine AWp.weaken (s' := (s.put (some t) y).fs) ⟨fun u => ?_, fun id y' hy => ⟨y', hy, .refl _⟩⟩ (hG _ _ _ h)
    subst hv
    rw [← LS.fs_put]
    simp only [FS.put, LS.fs]
    split
    · rename_i hu
      rw [hu, e]
      exact Sub.refl _
    · exact Sub.refl _
  · rename_i β p he c
    obtain ⟨x, hx⟩ := he
    exact hG _ _ _ (h x hx)
  · rename_i hf
    exact hf.elim
  · exact h.elim
theorem codeN_ok {P : Program} {c : Cx} {code : Code} {Q : Exit → FS → Prop} {ct : Ct P} {s : LS} {G : Ct P → Nat → LS → Prop} (h : nxP G (codeN P ct s))
    (hG : ∀ k m s', G k m s' → AWp c P code Q s'.fs) : AWp c P code Q s.fs := by
  unfold codeN at h
  split at h
  · rename_i id ts bs ps hp k
    split at h
    · rename_i y hy
      split at h
      · rename_i qs l hl
        obtain ⟨rfl, h⟩ := h
        obtain ⟨h1, h2⟩ := allP_append hp
        exact awp_freeze id y _ hy (fzTs_ok ts h1) (fzBL_ok hl h2) (hG _ _ _ h)
      · exact h.elim
    · exact h.elim
  · rename_i id t e k cc
    split at h
    · rename_i hn ht
      refine awp_rowNil id e k hn rfl (AWp.weaken (s' := ((s.setB id (.row (.slice none 0 0) e k [])).put (some t) (.rw id (.slice none 0 0) 0)).fs) ⟨fun u => ?_, fun i y' hy => ⟨y', hy, .refl _⟩⟩ (hG _ _ _ h.2))
      rw [← LS.fs_put]
      simp only [FS.put, LS.fs, LS.setB]
      split
      · rename_i hu
        rw [hu, ht]
        exact Sub.rwnil _
      · exact Sub.refl _
    · exact h.elim
  · rename_i id q j e k cc
    split at h
    · rename_i b T cs hn hq
      split at h
      · rename_i hj
        cases hb : Nat.beq id q with
        | true => rw [hb] at h; exact h.elim
        | false =>
          rw [hb] at h
          refine awp_rowNil id e k hn rfl (AWp.weaken (s' := ((s.setB id (.row (.slice none 0 0) e k [])).setB q (.box b T (cs.set j (.rw id (.slice none 0 0) 0)))).fs) ⟨fun u => Sub.refl _, fun i y' hy => ?_⟩ (hG _ _ _ h.2))
          simp only [LS.fs, LS.setB, bget_bput] at hy ⊢
          split at hy
          · rename_i hi
            obtain rfl := Option.some.inj hy
            subst hi
            have hne : ¬ i = id := fun e => by rw [e, Nat.beq_refl] at hb; cases hb
            rw [if_neg hne]
            refine ⟨_, hq, .box b T _ _ (by simp) (fun u x y hx hy' => ?_)⟩
            rw [List.getElem?_set] at hy'
            split at hy'
            · rename_i hju
              subst hju
              split at hy'
              · rw [hj] at hx
                obtain rfl := Option.some.inj hx
                obtain rfl := Option.some.inj hy'
                exact Sub.rwnil _
              · cases hy'
            · rw [hx] at hy'
              obtain rfl := Option.some.inj hy'
              exact Sub.refl _
          · exact ⟨y', hy, .refl _⟩
      · exact h.elim
    · exact h.elim
  · rename_i rd b upd hh k
    exact hh c Q code s h.1 fun a => hG _ _ _ (h.2 a)
  · exact stateN_awp h hG
inductive Fo where
  | code (c : Code)
  | nrm
  | reg (ops : Array Oper) (ord : List Nat)
  | regA (ops : Array Oper) (pre : List Nat) (a b : List Nat)
  | regD (ops : Array Oper) (l : Array Bool) (f : Nat)
  | regS (ops : Array Oper) (is : List Nat) (l : Array Bool) (f : Nat)
  | regB (ops : Array Oper) (l : Array Bool) (rs : List Nat) (f : Nat)
  | regL (ops : Array Oper) (pre : List Nat) (j : Nat) (post : List Nat)
def isState {P : Program} : Ct P → Bool
  | .is .. => true
  | .br .. => true
  | .val .. => true
  | .ex .. => true
  | .no .. => true
  | .frz .. => true
  | .rowNil .. => true
  | .rowNilB .. => true
  | .st .. => true
  | _ => false
def isVia {P : Program} : Ct P → Bool
  | .via .. => true
  | _ => false
def isInto {P : Program} : Ct P → Bool
  | .into .. => true
  | _ => false
def compC : Code → Bool
  | .seq .. => true
  | .block .. => true
  | .scope .. => true
  | _ => false
def intoV {P : Program} (x : Code) (ct : Ct P) (G : Ct P → Code → Fr → Prop) : Prop :=
  match ct, x with
  | .into k, .seq a b => G k a (.k b)
  | .into k, .block id a => G k a (.blk id)
  | .into k, .scope a => G k a .scp
  | _, _ => False
def viaV (P : Program) (F : Func) (x : Code) (ct : Ct P) (s : LS) (G : Ct P → Code → LS → Prop) : Prop :=
  match ct with
  | .via (α := α) nt code rest rd b upd h k => (F.ntmps, x, rd s) = (nt, code, some b) ∧ ∀ a, G (k a) rest (upd a s)
  | _ => False
inductive RG where
  | val (r : AV)
  | row (e k : Nat) (xs : List (List AV))
  | valB (r : AV) (q : Nat) (y : Bx)
  | valBs (r : AV) (ys : Value → List (Nat × Bx))
def bxsOf (s : LS) : List (Nat × Bx) → Option (List (Nat × Bx))
  | [] => some []
  | (i, _) :: r =>
    match bget s.bx i, bxsOf s r with
    | some z, some l => some ((i, z) :: l)
    | _, _ => none
theorem bxsOf_ok {s : LS} : ∀ {ys l : List (Nat × Bx)}, bxsOf s ys = some l → ∀ p ∈ l, s.fs.bx p.1 = some p.2
  | [], l, h, p, hp => by obtain rfl := Option.some.inj h; cases hp
  | (i, y) :: r, l, h, p, hp => by
    simp only [bxsOf] at h
    split at h
    · rename_i z l' hz hl
      obtain rfl := Option.some.inj h
      rcases List.mem_cons.1 hp with rfl | hp
      · exact hz
      · exact bxsOf_ok hl p hp
    · cases h
def DoneG (P : Program) (F : Func) : RG → FS → Prop
  | .val r, s => DoneR P F r s
  | .row e k xs, s => ∃ ps q V n, resAll P s F.results.toList = some (ps, [.rw q V n]) ∧ allP ps ∧ s.bx q = some (.row V e k xs)
  | .valB r q y, s => DoneR P F r s ∧ s.bx q = some y
  | .valBs r ys, s => DoneR P F r s ∧ ∃ V, ∀ p ∈ ys V, s.bx p.1 = some p.2
def FinG (P : Program) (F : Func) (g : RG) (e : Exit) (s : FS) : Prop := (e = .normal ∨ e = .ret) ∧ DoneG P F g s
def finV (P : Program) (F : Func) (g : RG) (ct : Ct P) (s : LS) : Prop :=
  match g, ct with
  | .val r, .fin (x := x) (r := r') ps hp h =>
    (match resAll P s.fs F.results.toList with
    | some (ps', xs) => (ps', resOf xs, r) = (ps, x, r')
    | none => False)
  | .row e k xs, .finRow (x := x) (r := r') ps hp q e0 k0 n V h =>
    (match resAll P s.fs F.results.toList, bget s.bx q with
    | some (ps', [.rw q' V' n']), some (.row V2 e2 k2 xs2) => (ps', q', V', n', V2, e2, k2, xs2, e, k, xs) = (ps, q, V, n, V, e0, k0, x, e0, k0, r')
    | _, _ => False)
  | .valB r q y, .finB (x := x) (r := r') ps hp y0 h =>
    (match resAll P s.fs F.results.toList, bget s.bx q with
    | some (ps', xs), some y' => (ps', resOf xs, r, y', y) = (ps, x, r', y0, y0)
    | _, _ => False)
  | .valBs r ys, .finBs (x := x) (r := r') ps hp V y0 h =>
    (match resAll P s.fs F.results.toList, bxsOf s (ys V) with
    | some (ps', xs), some l => (ps', resOf xs, r, l, ys V) = (ps, x, r', y0, y0)
    | _, _ => False)
  | _, _ => False
theorem finV_ok {P : Program} {F : Func} {g : RG} {ct : Ct P} {s : LS} (h : finV P F g ct s) : DoneG P F g s.fs := by
  unfold finV at h
  split at h
  · rename_i r ps hp x r' hs
    split at h
    · rename_i ps' xs hr
      simp only [Prod.mk.injEq] at h
      obtain ⟨rfl, rfl, rfl⟩ := h
      exact ⟨_, _, hr, hp, hs⟩
    · exact h.elim
  · rename_i e k xs ps hp q e0 k0 n V x r' hx
    split at h
    · rename_i ps' q' V' n' V2 e2 k2 xs2 hr hb
      simp only [Prod.mk.injEq] at h
      obtain ⟨rfl, rfl, rfl, rfl, rfl, rfl, rfl, rfl, rfl, rfl, rfl⟩ := h
      subst hx
      exact ⟨_, _, _, _, hr, hp, hb⟩
    · exact h.elim
  · rename_i r q y ps hp x r' y0 hs
    split at h
    · rename_i ps' xs y' hr hb
      simp only [Prod.mk.injEq] at h
      obtain ⟨rfl, rfl, rfl, rfl, rfl⟩ := h
      exact ⟨⟨_, _, hr, hp, hs⟩, hb⟩
    · exact h.elim
  · rename_i r ys ps hp x r' V y0 hs
    split at h
    · rename_i ps' xs l hr hb
      simp only [Prod.mk.injEq] at h
      obtain ⟨rfl, rfl, rfl, e1, e2⟩ := h
      subst e1
      exact ⟨⟨_, _, hr, hp, hs⟩, V, by rw [e2]; exact bxsOf_ok hb⟩
    · exact h.elim
  · exact h.elim
def gotoV {P : Program} (f : Option Fr) (ct : Ct P) (s : LS) : Prop :=
  match f, ct with
  | some (.jmp l L none), .back0 L' b hH s0 h1 h2 => Fr.jmp 0 L none = Fr.jmp 0 L' none ∧ nmS s (L'.st b) = some s0
  | some (.jmp l L (some a)), .back L' a' b hH hμ s0 h1 h2 => Fr.lp L a = Fr.lp L' a' ∧ nmS s (L'.st b) = some s0
  | _, _ => False
theorem gotoV_ok {c : Cx} {P : Program} {Q : Exit → FS → Prop} {l : Nat} {fr : List Fr} {ct : Ct P} {s : LS} (h : gotoV (popJ l fr) ct s) : QF c P Q fr (.goto l) s.fs := by
  unfold gotoV at h
  split at h
  · rename_i l' L _ L' b hH s0 h1 h2 hp
    obtain ⟨e, ho⟩ := h
    cases e
    exact QF_goto (m := none) ⟨b, hH, trivial, le_nm ho h1 h2⟩ hp
  · rename_i l' L a _ L' a' b hH hμ s0 h1 h2 hp
    obtain ⟨e, ho⟩ := h
    cases e
    exact QF_goto (m := some a) ⟨b, hH, hμ, le_nm ho h1 h2⟩ hp
  · exact h.elim
def vc (P : Program) (F : Func) (r : RG) : Nat → Ct P → Fo → List Fr → LS → Prop
  | 0, _, _, _, _ => False
  | n + 1, ct, .nrm, fr, s =>
    match fr with
    | [] => finV P F r ct s
    | .k y :: fr' => vc P F r n ct (.code y) fr' s
    | .blk _ :: fr' => vc P F r n ct .nrm fr' s
    | .scp :: fr' => vc P F r n ct .nrm fr' s
    | .jmp .. :: fr' => vc P F r n ct .nrm fr' s
    | .lp L a :: _ =>
      (match ct with
      | .back L' a' b hH hμ s0 h1 h2 => Fr.lp L a = Fr.lp L' a' ∧ nmS s (L'.st b) = some s0
      | _ => False)
    | .jn J :: _ =>
      (match ct with
      | .join J' b hH s0 h1 h2 => Fr.jn J = Fr.jn J' ∧ nmS s (J'.st b) = some s0
      | _ => False)
  | n + 1, ct, .reg ops ord, fr, s =>
    match ord with
    | [] => vc P F r n ct .nrm fr s
    | i :: rest => nxP (fun k m s' => vc P F r n k (.reg ops ((i :: rest).drop m)) fr s') (stepN P ops i rest ct s)
  | n + 1, ct, .regA ops pre a b, fr, s =>
    match pre with
    | [] =>
      (match ct with
      | .alt k1 k2 => vc P F r n k1 (.reg ops a) fr s ∧ vc P F r n k2 (.reg ops b) fr s
      | _ => False)
    | i :: rest => nxP (fun k m s' => vc P F r n k (.regA ops ((i :: rest).drop m) a b) fr s') (stepN P ops i rest ct s)
  | n + 1, ct, .regD ops l f, fr, s =>
    (match ct, f with
    | .pick is k, f => bif okPre P ops is l && Nat.ble is.length f then vc P F r n k (.regS ops is (aft is l) (f - is.length)) fr s else False
    | .fork k, f' + 1 => bif (Region.ready .any ops l).isEmpty then False else vc P F r n k (.regB ops l (Region.ready .any ops l) f') fr s
    | .fork _, 0 => False
    | ct, _ => bif (Region.ready .any ops l).isEmpty then vc P F r n ct .nrm fr s else False)
  | n + 1, ct, .regS ops is l f, fr, s =>
    match is with
    | [] => vc P F r n ct (.regD ops l f) fr s
    | i :: rest => nxP (fun k m s' => vc P F r n k (.regS ops ((i :: rest).drop m) l f) fr s') (stepN P ops i rest ct s)
  | n + 1, ct, .regB ops l rs f, fr, s =>
    match rs with
    | [] => False
    | [i] => vc P F r n ct (.regS ops [i] (l.setIfInBounds i true) f) fr s
    | i :: j :: rest =>
      (match ct with
      | .alt k1 k2 => vc P F r n k1 (.regS ops [i] (l.setIfInBounds i true) f) fr s ∧ vc P F r n k2 (.regB ops l (j :: rest) f) fr s
      | _ => False)
  | n + 1, ct, .regL ops pre j post, fr, s =>
    match pre with
    | [] =>
      (match ct with
      | .lop (α := α) rd b upd h k => rd ops s j = some b ∧ ∀ a, vc P F r n (k a) (.reg ops post) fr (upd a s)
      | _ => False)
    | i :: rest => nxP (fun k m s' => vc P F r n k (.regL ops ((i :: rest).drop m) j post) fr s') (stepN P ops i rest ct s)
  | n + 1, ct, .code c, fr, s =>
    bif isState ct then nxP (fun k m s' => vc P F r n k (.code c) fr s') (codeN P ct s) else
    bif isVia ct then viaV P F c ct s (fun k y s' => vc P F r n k (.code y) fr s') else
    bif isInto ct && compC c then intoV c ct (fun k y f => vc P F r n k (.code y) (f :: fr) s) else
    match c with
    | .skip => vc P F r n ct .nrm fr s
    | .label _ => vc P F r n ct .nrm fr s
    | .seq x y =>
      (match ct with
      | .cut J k cc => vc P F r n k (.code x) (.jn J :: fr) s ∧ ∀ a h, vc P F r n (cc a h) (.code y) fr (J.st a)
      | ct => vc P F r n ct (.code x) (.k y :: fr) s)
    | .block id x => vc P F r n ct (.code x) (.blk id :: fr) s
    | .scope x =>
      (match ct with
      | .jump l L k cc =>
        (match findLabel x l with
        | some rest => vc P F r n k (.code x) (.jmp l L none :: fr) s ∧ ∀ a h, vc P F r n (cc a h) (.code rest) (.jmp l L (some a) :: fr) (L.st a)
        | none => False)
      | ct => vc P F r n ct (.code x) (.scp :: fr) s)
    | .goto l => gotoV (popJ l fr) ct s
    | .exit id =>
      (match popX id fr with
      | some fr' => vc P F r n ct .nrm fr' s
      | none => False)
    | .ret => finV P F r ct s
    | .cond (.tmp t) x y =>
      (match lget s.tm t with
      | .val (.bool true) => bif Nat.blt t F.ntmps then vc P F r n ct (.code x) fr s else False
      | .val (.bool false) => bif Nat.blt t F.ntmps then vc P F r n ct (.code y) fr s else False
      | _ => False)
    | .region _ ops false =>
      (match ct with
      | .lent j k => bif slotsOk F.ntmps ops && (List.range ops.size == List.range j ++ j :: (List.range ops.size).drop (j + 1)) then vc P F r n k (.regL ops (List.range j) j ((List.range ops.size).drop (j + 1))) fr s else False
      | ct => bif slotsOk F.ntmps ops then vc P F r n ct (.reg ops (List.range ops.size)) fr s else False)
    | .region _ ops true =>
      (match ct with
      | .ordA pre [a, b] k => bif slotsOk F.ntmps ops && (okPre P ops pre (Array.replicate ops.size false) && (okAlt P ops (aft pre (Array.replicate ops.size false)) (a.length - 1) [a, b] && pre.length + (a.length - 1) + 1 == ops.size)) then vc P F r n k (.regA ops pre a b) fr s else False
      | .pick is k => bif slotsOk F.ntmps ops then vc P F r n (.pick is k) (.regD ops (Array.replicate ops.size false) ops.size) fr s else False
      | .fork k => bif slotsOk F.ntmps ops then vc P F r n (.fork k) (.regD ops (Array.replicate ops.size false) ops.size) fr s else False
      | .ord l k => bif slotsOk F.ntmps ops && (okOrdB P ops l (Array.replicate ops.size false) && l.length == ops.size) then vc P F r n k (.reg ops l) fr s else False
      | _ => False)
    | .loop x =>
      (match ct with
      | .loop L a0 hH s0 h1 h2 cc => nmS s (L.st a0) = some s0 ∧ ∀ a h, vc P F r n (cc a h) (.code x) (.lp L a :: fr) (L.st a)
      | _ => False)
    | _ => False
def OkFn (c : Cx) (P : Program) (F : Func) (r : RG) : Fo → List Fr → LS → Prop
  | .nrm, fr, s => QF c P (FinG P F r) fr .normal s.fs
  | .code x, fr, s => AWp c P x (QF c P (FinG P F r) fr) s.fs
  | .reg ops ord, fr, s => SeqR P ops (QF c P (FinG P F r) fr .normal) ord s.fs
  | .regA ops pre a b, fr, s => SeqR P ops (fun s' => SeqR P ops (QF c P (FinG P F r) fr .normal) a s' ∧ SeqR P ops (QF c P (FinG P F r) fr .normal) b s') pre s.fs
  | .regD ops l f, fr, s => aAny P ops (QF c P (FinG P F r) fr .normal) f l s.fs
  | .regS ops is l f, fr, s => SeqR P ops (aAny P ops (QF c P (FinG P F r) fr .normal) f l) is s.fs
  | .regL ops pre j post, fr, s => SeqR P ops (fun s' => StepL P ops j s' (SeqR P ops (QF c P (FinG P F r) fr .normal) post)) pre s.fs
  | .regB ops l rs f, fr, s => ∀ i ∈ rs, StepR P ops i s.fs (aAny P ops (QF c P (FinG P F r) fr .normal) f (l.setIfInBounds i true))
theorem SeqR_mono {P : Program} {ops : Array Oper} {K K' : FS → Prop} (h : ∀ s, K s → K' s) : ∀ (r : List Nat) (s : FS), SeqR P ops K r s → SeqR P ops K' r s
  | [], s, hs => h s hs
  | i :: r, s, hs => StepR.mono hs fun s' h' => SeqR_mono h r s' h'
theorem awp_region_drawA {c : Cx} {P : Program} {Q : Exit → FS → Prop} {s : FS} {id : Nat} {ops : Array Oper} (hm : P.follows .mixedOrders = true) (hs : slotsOk c.n ops = true) (h : aAny P ops (Q .normal) ops.size (Array.replicate ops.size false) s) : AWp c P (.region id ops true) Q s := fun a w hr => by
  refine wp_region_any hm ?_
  exact aAny_sound (K := Q .normal) hs (fun s a w hk hr => ⟨s, hk, hr⟩) _ _ s a _ h hr.drawn
theorem vc_sound {c : Cx} {P : Program} {F : Func} {r : RG} (hn : c.n = F.ntmps) (hm : P.follows .mixedOrders = true) : ∀ (n : Nat) (ct : Ct P) (fo : Fo) (fr : List Fr) (s : LS), vc P F r n ct fo fr s → OkFn c P F r fo fr s
  | 0, _, _, _, _, h => h.elim
  | n + 1, ct, .nrm, fr, s, h => by
    match fr, h with
    | [], h => exact ⟨.inl rfl, finV_ok h⟩
    | .k y :: fr', h => exact vc_sound hn hm n ct (.code y) fr' s h
    | .blk _ :: fr', h => exact vc_sound hn hm n ct .nrm fr' s h
    | .scp :: fr', h => exact vc_sound hn hm n ct .nrm fr' s h
    | .jmp .. :: fr', h => exact vc_sound hn hm n ct .nrm fr' s h
    | .lp L a :: fr', h =>
      simp only [vc] at h
      split at h
      · rename_i L' a' b hH hμ s0 h1 h2 _
        obtain ⟨e, ho⟩ := h
        cases e
        exact ⟨b, hH, hμ, le_nm ho h1 h2⟩
      · exact h.elim
    | .jn J :: fr', h =>
      simp only [vc] at h
      split at h
      · rename_i J' b hH s0 h1 h2 _
        obtain ⟨e, ho⟩ := h
        cases e
        exact ⟨b, hH, le_nm ho h1 h2⟩
      · exact h.elim
  | n + 1, ct, .reg ops ord, fr, s, h => by
    match ord, h with
    | [], h => exact vc_sound hn hm n ct .nrm fr s h
    | i :: rest, h => exact stepN_ok (G := fun k m s' => vc P F r n k (.reg ops ((i :: rest).drop m)) fr s') h fun k m s' hk => vc_sound hn hm n k (.reg ops ((i :: rest).drop m)) fr s' hk
  | n + 1, ct, .regA ops pre a b, fr, s, h => by
    match pre, h with
    | [], h =>
      simp only [vc] at h
      split at h
      · rename_i k1 k2 _
        exact ⟨vc_sound hn hm n k1 (.reg ops a) fr s h.1, vc_sound hn hm n k2 (.reg ops b) fr s h.2⟩
      · exact h.elim
    | i :: rest, h => exact stepN_ok (G := fun k m s' => vc P F r n k (.regA ops ((i :: rest).drop m) a b) fr s') h fun k m s' hk => vc_sound hn hm n k (.regA ops ((i :: rest).drop m) a b) fr s' hk
  | n + 1, ct, .regD ops l f, fr, s, h => by
    have hend : ∀ ct, (bif (Region.ready .any ops l).isEmpty then vc P F r n ct .nrm fr s else False) → aAny P ops (QF c P (FinG P F r) fr .normal) f l s.fs := fun ct h => by
      cases he : (Region.ready .any ops l).isEmpty with
      | false => rw [he] at h; exact h.elim
      | true =>
        rw [he] at h
        have hv := vc_sound hn hm n ct .nrm fr s h
        have he' : Region.ready .any ops l = [] := by simpa using he
        cases f with
        | zero => exact ⟨he', hv⟩
        | succ f => exact ⟨fun _ => hv, fun i hi => by rw [he'] at hi; cases hi⟩
    show aAny P ops (QF c P (FinG P F r) fr .normal) f l s.fs
    simp only [vc] at h
    split at h
    · rename_i is k
      cases hl : (okPre P ops is l && Nat.ble is.length f) with
      | false => rw [hl] at h; exact h.elim
      | true =>
        rw [hl] at h
        rw [Bool.and_eq_true] at hl
        have hle := Nat.le_of_ble_eq_true hl.2
        have hv := okPre_any (f := f - is.length) is l s.fs hl.1 (vc_sound hn hm n k (.regS ops is (aft is l) (f - is.length)) fr s h)
        rw [show is.length + (f - is.length) = f from by omega] at hv
        exact hv
    · rename_i k f'
      cases he : (Region.ready .any ops l).isEmpty with
      | true => rw [he] at h; exact h.elim
      | false =>
        rw [he] at h
        exact ⟨fun h0 => (by rw [h0] at he; cases he), fun i hi => vc_sound hn hm n k (.regB ops l (Region.ready .any ops l) f') fr s h i hi⟩
    · exact h.elim
    · exact hend _ h
  | n + 1, ct, .regS ops is l f, fr, s, h => by
    match is, h with
    | [], h => exact vc_sound hn hm n ct (.regD ops l f) fr s h
    | i :: rest, h => exact stepN_ok (G := fun k m s' => vc P F r n k (.regS ops ((i :: rest).drop m) l f) fr s') h fun k m s' hk => vc_sound hn hm n k (.regS ops ((i :: rest).drop m) l f) fr s' hk
  | n + 1, ct, .regB ops l rs f, fr, s, h => by
    match rs, h with
    | [i], h =>
      intro j hj
      obtain rfl := List.mem_singleton.1 hj
      have hv : SeqR P ops (aAny P ops (QF c P (FinG P F r) fr .normal) f (l.setIfInBounds j true)) [j] s.fs := vc_sound hn hm n ct (.regS ops [j] (l.setIfInBounds j true) f) fr s h
      exact StepR.mono hv fun _ h => h
    | i :: i2 :: rest, h =>
      simp only [vc] at h
      split at h
      · rename_i k1 k2 _
        intro j hj
        rcases List.mem_cons.1 hj with rfl | hj
        · have hv : SeqR P ops (aAny P ops (QF c P (FinG P F r) fr .normal) f (l.setIfInBounds j true)) [j] s.fs := vc_sound hn hm n k1 (.regS ops [j] (l.setIfInBounds j true) f) fr s h.1
          exact StepR.mono hv fun _ h => h
        · exact vc_sound hn hm n k2 (.regB ops l (i2 :: rest) f) fr s h.2 j hj
      · exact h.elim
  | n + 1, ct, .regL ops pre j post, fr, s, h => by
    match pre, h with
    | [], h =>
      simp only [vc] at h
      split at h
      · rename_i rd b upd hh k _
        exact hh ops j s _ h.1 fun a => vc_sound hn hm n (k a) (.reg ops post) fr _ (h.2 a)
      · exact h.elim
    | i :: rest, h => exact stepN_ok (G := fun k m s' => vc P F r n k (.regL ops ((i :: rest).drop m) j post) fr s') h fun k m s' hk => vc_sound hn hm n k (.regL ops ((i :: rest).drop m) j post) fr s' hk
  | n + 1, ct, .code x, fr, s, h => by
    simp only [vc] at h
    show AWp c P x (QF c P (FinG P F r) fr) s.fs
    cases hst : isState ct with
    | true =>
      rw [hst] at h
      exact codeN_ok (G := fun k m s' => vc P F r n k (.code x) fr s') h fun k m s' hk => vc_sound hn hm n k (.code x) fr s' hk
    | false =>
      rw [hst] at h
      simp only [cond_false] at h
      cases hvi : isVia ct with
      | true =>
        rw [hvi] at h
        simp only [cond_true] at h
        unfold viaV at h
        split at h
        · rename_i nt code rest rd b upd hh k
          obtain ⟨e, h⟩ := h
          simp only [Prod.mk.injEq] at e
          obtain ⟨e1, rfl, e3⟩ := e
          exact hh c _ s (hn.trans e1) hm e3 fun a => vc_sound hn hm n (k a) (.code _) fr _ (h a)
        · exact h.elim
      | false =>
      rw [hvi] at h
      simp only [cond_false] at h
      cases hin : isInto ct && compC x with
      | true =>
        rw [hin] at h
        simp only [cond_true] at h
        unfold intoV at h
        split at h
        · exact awp_seq (vc_sound hn hm n _ (.code _) (.k _ :: fr) s h)
        · exact awp_block (vc_sound hn hm n _ (.code _) (.blk _ :: fr) s h)
        · exact awp_scope (vc_sound hn hm n _ (.code _) (.scp :: fr) s h)
        · exact h.elim
      | false =>
      rw [hin] at h
      simp only [cond_false] at h
      split at h
      · exact awp_skip (vc_sound hn hm n ct .nrm fr s h)
      · exact awp_label (vc_sound hn hm n ct .nrm fr s h)
      · split at h
        · rename_i J k cc
          obtain ⟨h1, h2⟩ := h
          refine awp_seq ((vc_sound hn hm n k (.code _) (.jn J :: fr) s h1).mono fun e s' q => ?_)
          cases e with
          | normal =>
            obtain ⟨b, hb, hl⟩ := q
            exact AWp.weaken hl (vc_sound hn hm n (cc b hb) (.code _) fr (J.st b) (h2 b hb))
          | _ => exact q
        · exact awp_seq (vc_sound hn hm n ct (.code _) (.k _ :: fr) s h)
      · exact awp_block (vc_sound hn hm n ct (.code _) (.blk _ :: fr) s h)
      · split at h
        · rename_i α l L k cc
          split at h
          · rename_i rest hf
            obtain ⟨h1, h2⟩ := h
            exact awp_jumps l L.st L.μ L.H hf (AWp.mono (vc_sound hn hm n k (.code _) (.jmp l L none :: fr) s h1) fun e s' q => by
              cases e with
              | goto l' => obtain ⟨e1, b, hb, _, hl⟩ := q; exact ⟨e1, b, hb, hl⟩
              | _ => exact q) fun a ha => vc_sound hn hm n (cc a ha) (.code _) (.jmp l L (some a) :: fr) (L.st a) (h2 a ha)
          · exact h.elim
        · exact awp_scope (vc_sound hn hm n ct (.code _) (.scp :: fr) s h)
      · exact awp_goto (gotoV_ok h)
      · split at h
        · rename_i fr' hp
          exact awp_exit (QF_exit hp (vc_sound hn hm n ct .nrm fr' s h))
        · exact h.elim
      · exact awp_ret (QF_ret ⟨.inr rfl, finV_ok h⟩ fr)
      · split at h
        · rename_i t _ _ _ hb
          cases hl : Nat.blt t F.ntmps with
          | false => rw [hl] at h; exact h.elim
          | true =>
            rw [hl] at h
            exact awp_if true (by rw [hn]; exact Nat.lt_of_succ_le (by simpa [Nat.blt] using hl)) hb rfl (vc_sound hn hm n ct (.code _) fr s h)
        · rename_i t _ _ _ hb
          cases hl : Nat.blt t F.ntmps with
          | false => rw [hl] at h; exact h.elim
          | true =>
            rw [hl] at h
            exact awp_if false (by rw [hn]; exact Nat.lt_of_succ_le (by simpa [Nat.blt] using hl)) hb rfl (vc_sound hn hm n ct (.code _) fr s h)
        · exact h.elim
      · rename_i ops
        split at h
        · rename_i j k
          cases hl : (slotsOk F.ntmps ops && (List.range ops.size == List.range j ++ j :: (List.range ops.size).drop (j + 1))) with
          | false => rw [hl] at h; exact h.elim
          | true =>
            rw [hl] at h
            rw [Bool.and_eq_true] at hl
            exact awp_regionL (List.range j) j _ (by rw [hn]; exact hl.1) hl.2 (vc_sound hn hm n k (.regL ops (List.range j) j ((List.range ops.size).drop (j + 1))) fr s h)
        cases hl : slotsOk F.ntmps ops with
        | false => rw [hl] at h; exact h.elim
        | true =>
          rw [hl] at h
          exact awp_region (List.range ops.size) (by rw [hn]; exact hl) (by simp) (vc_sound hn hm n ct (.reg ops (List.range ops.size)) fr s h)
      · rename_i ops
        split at h
        · rename_i pre a b k
          cases hl : (slotsOk F.ntmps ops && (okPre P ops pre (Array.replicate ops.size false) && (okAlt P ops (aft pre (Array.replicate ops.size false)) (a.length - 1) [a, b] && pre.length + (a.length - 1) + 1 == ops.size))) with
          | false => rw [hl] at h; exact h.elim
          | true =>
            rw [hl] at h
            have hl2 := hl
            simp only [Bool.and_eq_true, beq_iff_eq] at hl2
            have hv := vc_sound hn hm n k (.regA ops pre a b) fr s h
            refine awp_region_drawA hm (by rw [hn]; exact hl2.1) ?_
            have hp := okPre_any (K := QF c P (FinG P F r) fr .normal) (f := a.length - 1 + 1) pre _ s.fs hl2.2.1 (SeqR_mono (fun s' hs' => okAlt_any hl2.2.2.1 (fun x hx => by
              simp only [List.mem_cons, List.not_mem_nil, or_false] at hx
              rcases hx with rfl | rfl
              · exact hs'.1
              · exact hs'.2)) pre s.fs hv)
            rw [show pre.length + (a.length - 1 + 1) = ops.size from by omega] at hp
            exact hp
        · rename_i is k
          cases hl : slotsOk F.ntmps ops with
          | false => rw [hl] at h; exact h.elim
          | true =>
            rw [hl] at h
            exact awp_region_drawA hm (by rw [hn]; exact hl) (vc_sound hn hm n (.pick is k) (.regD ops (Array.replicate ops.size false) ops.size) fr s h)
        · rename_i k
          cases hl : slotsOk F.ntmps ops with
          | false => rw [hl] at h; exact h.elim
          | true =>
            rw [hl] at h
            exact awp_region_drawA hm (by rw [hn]; exact hl) (vc_sound hn hm n (.fork k) (.regD ops (Array.replicate ops.size false) ops.size) fr s h)
        · rename_i l k
          cases hl : (slotsOk F.ntmps ops && (okOrdB P ops l (Array.replicate ops.size false) && l.length == ops.size)) with
          | false => rw [hl] at h; exact h.elim
          | true =>
            rw [hl] at h
            have hl2 := hl
            rw [Bool.and_eq_true] at hl2
            exact awp_region_draw l hm (by rw [hn]; exact hl2.1) (by have h3 := hl2.2; rw [Bool.and_eq_true] at h3 ⊢; exact ⟨okOrdB_A h3.1, h3.2⟩) (vc_sound hn hm n k (.reg ops l) fr s h)
        · exact h.elim
      · split at h
        · rename_i α L a0 hH s0 h1 h2 cc
          obtain ⟨ho, hr⟩ := h
          refine awp_rounds L.st L.μ L.H a0 (le_nm ho h1 h2) hH fun a ha => ?_
          exact vc_sound hn hm n (cc a ha) (.code _) (.lp L a :: fr) (L.st a) (hr a ha)
        · exact h.elim
      · exact h.elim
def vcC {P : Program} : Ct P → Prop
  | .fin (x := x) (r := r) ps hp h => (ps, x, r) = (ps, x, r)
  | .ord l k => vcC k
  | .ordA pre alts k => vcC k
  | .pick is k => vcC k
  | .fork k => vcC k
  | .alt a b => vcC a ∧ vcC b
  | .run n ps hp k => ps = ps ∧ vcC k
  | .new k => ∀ b, vcC (k b)
  | .call (f := g) (args := as) h k => (g, as) = (g, as) ∧ vcC k
  | .callS (f := g) (args0 := as) hs h k => (g, as) = (g, as) ∧ vcC k
  | .callRow (f := g) (args0 := as) hs hk h c => (g, as) = (g, as) ∧ ∀ V, vcC (c V)
  | .idx (m := m) (xs := xs) j hm he k => (xs, m) = (xs, m) ∧ vcC k
  | .idxM (m := m) l f j hm hj c => (l.map f, m) = (l.map f, m) ∧ ∀ x hx, vcC (c x hx)
  | .is (b := b) t h k => b = b ∧ vcC k
  | .br t b k1 k2 => b = b ∧ (∀ h, vcC (k1 h)) ∧ ∀ h, vcC (k2 h)
  | .val (x := x) t h k => x = x ∧ vcC k
  | .ex h c => ∀ x hx, vcC (c x hx)
  | .no h => True
  | .slc kk tt xs l h m a b t' hlo hhi hmx hab hbn k => (kk, tt, xs, l, h, m) = (kk, tt, xs, l, h, m) ∧ vcC k
  | .slcS tx l h a b hlo hhi hab hbn k => (tx, l, h) = (tx, l, h) ∧ vcC k
  | .app bytes V xs ys h63 hby c => (V, V, xs, ys) = (V, V, xs, ys) ∧ ∀ V, vcC (c V)
  | .appNew (x0 := x0) bytes kk xs ys hs h1 hk h63 hby c => (x0, ys) = (x0, ys) ∧ ∀ V, vcC (c V)
  | .appNone bytes k => True ∧ vcC k
  | .isNil xs c => xs = xs ∧ ∀ b h, vcC (c b h)
  | .mk0 (m := m) bytes cap hm hby h63 c => m = m ∧ ∀ V, vcC (c V)
  | .lit0 c => True ∧ ∀ V, vcC (c V)
  | .litN c => True ∧ ∀ V, vcC (c V)
  | .mkMap c => ∀ b, vcC (c b)
  | .ins (kk := kk) (es := es) r hn k => (r, r, kk, es) = (r, r, kk, es) ∧ vcC k
  | .look (kk := kk) (es := es) hn k => (kk, es) = (kk, es) ∧ vcC k
  | .eqS k => True ∧ vcC k
  | .binV (a := a) (b := b) op t h k => (op, t, a, b) = (op, t, a, b) ∧ vcC k
  | .byte (m := m) (tx := tx) j hm hj c => (tx, m) = (tx, m) ∧ ∀ x hx, vcC (c x hx)
  | .frz id ts bs ps hp k => ps = ps ∧ vcC k
  | .rowNil id t e k c => True ∧ vcC c
  | .rowNilB id q j e k c => True ∧ vcC c
  | .loop L a0 hH s0 h1 h2 c => some s0 = some s0 ∧ ∀ a h, vcC (c a h)
  | .back L a b hH hμ s0 h1 h2 => Fr.lp L a = Fr.lp L a ∧ some s0 = some s0
  | .lent j k => vcC k
  | .lop rd b upd h k => some b = some b ∧ ∀ a, vcC (k a)
  | .jump l L k c => vcC k ∧ ∀ a h, vcC (c a h)
  | .back0 L b hH s0 h1 h2 => Fr.jmp 0 L none = Fr.jmp 0 L none ∧ some s0 = some s0
  | .cut J k c => vcC k ∧ ∀ a h, vcC (c a h)
  | .join J b hH s0 h1 h2 => Fr.jn J = Fr.jn J ∧ some s0 = some s0
  | .into k => vcC k
  | .finB (x := x) (r := r) ps hp y h => (ps, x, r, y, y) = (ps, x, r, y, y)
  | .finBs (x := x) (r := r) ps hp V y h => (ps, x, r, y, y) = (ps, x, r, y, y)
  | .finRow (x := x) (r := r) ps hp q e k n V h => (ps, q, V, n, V, e, k, x, e, k, r) = (ps, q, V, n, V, e, k, x, e, k, r)
  | .op rd b upd h k => some b = some b ∧ ∀ a, vcC (k a)
  | .st rd b upd h k => some b = some b ∧ ∀ a, vcC (k a)
  | .via nt code rest rd b upd h k => (nt, code, some b) = (nt, code, some b) ∧ ∀ a, vcC (k a)
theorem vcC_true {P : Program} : ∀ ct : Ct P, vcC ct
  | .fin .. => rfl
  | .ord l k => vcC_true k
  | .ordA pre alts k => vcC_true k
  | .pick is k => vcC_true k
  | .fork k => vcC_true k
  | .alt a b => ⟨vcC_true a, vcC_true b⟩
  | .run n ps hp k => ⟨rfl, vcC_true k⟩
  | .new k => fun b => vcC_true (k b)
  | .call h k => ⟨rfl, vcC_true k⟩
  | .callS hs h k => ⟨rfl, vcC_true k⟩
  | .callRow hs hk h c => ⟨rfl, fun V => vcC_true (c V)⟩
  | .idx j hm he k => ⟨rfl, vcC_true k⟩
  | .idxM l f j hm hj c => ⟨rfl, fun x hx => vcC_true (c x hx)⟩
  | .is t h k => ⟨rfl, vcC_true k⟩
  | .br t b k1 k2 => ⟨rfl, fun h => vcC_true (k1 h), fun h => vcC_true (k2 h)⟩
  | .val t h k => ⟨rfl, vcC_true k⟩
  | .ex h c => fun x hx => vcC_true (c x hx)
  | .no h => trivial
  | .slc _ _ _ _ _ _ _ _ _ _ _ _ _ _ k => ⟨rfl, vcC_true k⟩
  | .slcS _ _ _ _ _ _ _ _ _ k => ⟨rfl, vcC_true k⟩
  | .app _ _ _ _ _ _ c => ⟨rfl, fun V => vcC_true (c V)⟩
  | .appNew _ _ _ _ _ _ _ _ _ c => ⟨rfl, fun V => vcC_true (c V)⟩
  | .appNone _ k => ⟨trivial, vcC_true k⟩
  | .isNil xs c => ⟨rfl, fun b h => vcC_true (c b h)⟩
  | .mk0 _ _ _ _ _ c => ⟨rfl, fun V => vcC_true (c V)⟩
  | .lit0 c => ⟨trivial, fun V => vcC_true (c V)⟩
  | .litN c => ⟨trivial, fun V => vcC_true (c V)⟩
  | .mkMap c => fun b => vcC_true (c b)
  | .ins _ _ k => ⟨rfl, vcC_true k⟩
  | .look _ k => ⟨rfl, vcC_true k⟩
  | .eqS k => ⟨trivial, vcC_true k⟩
  | .binV _ _ _ k => ⟨rfl, vcC_true k⟩
  | .byte _ _ _ c => ⟨rfl, fun x hx => vcC_true (c x hx)⟩
  | .frz _ _ _ _ _ k => ⟨rfl, vcC_true k⟩
  | .rowNil _ _ _ _ c => ⟨trivial, vcC_true c⟩
  | .rowNilB _ _ _ _ _ c => ⟨trivial, vcC_true c⟩
  | .loop _ _ _ _ _ _ c => ⟨rfl, fun a h => vcC_true (c a h)⟩
  | .back .. => ⟨rfl, rfl⟩
  | .lent j k => vcC_true k
  | .lop _ _ _ _ k => ⟨rfl, fun a => vcC_true (k a)⟩
  | .jump l L k c => ⟨vcC_true k, fun a h => vcC_true (c a h)⟩
  | .back0 .. => ⟨rfl, rfl⟩
  | .cut J k c => ⟨vcC_true k, fun a h => vcC_true (c a h)⟩
  | .join .. => ⟨rfl, rfl⟩
  | .into k => vcC_true k
  | .finB .. => rfl
  | .finBs .. => rfl
  | .finRow .. => rfl
  | .op _ _ _ _ k => ⟨rfl, fun a => vcC_true (k a)⟩
  | .st _ _ _ _ k => ⟨rfl, fun a => vcC_true (k a)⟩
  | .via _ _ _ _ _ _ _ k => ⟨rfl, fun a => vcC_true (k a)⟩
def initL : List AV → Nat → List (Nat × AV)
  | [], _ => []
  | x :: r, n => (n, x) :: initL r (n + 1)
theorem lget_initL : ∀ (l : List AV) (n t : Nat), lget (initL l n) t = if n ≤ t then l.getD (t - n) .any else .any
  | [], n, t => by simp [initL, lget]
  | x :: r, n, t => by
    simp only [initL, lget]
    cases hb : Nat.beq n t with
    | true =>
      obtain rfl := Nat.eq_of_beq_eq_true hb
      simp
    | false =>
      have hne : n ≠ t := fun e => by rw [e, Nat.beq_refl] at hb; cases hb
      simp only [cond_false]
      rw [lget_initL r (n + 1) t]
      by_cases hle : n ≤ t
      · rw [if_pos hle, if_pos (by omega)]
        rw [show t - n = (t - (n + 1)) + 1 from by omega]
        simp
      · rw [if_neg hle, if_neg (by omega)]
theorem spec_vc {P : Program} {f : FuncId} {F : Func} {code : Code} {args : List AV} {r : AV} (n : Nat) (ct : Ct P) (hf : P.funcs[f]? = some F) (hb : F.body = some code)
    (hk : (decide (args.length ≤ F.ntmps) && (P.follows .mixedOrders && (F.results.toList.all fun rv => decide ((match rv with | .tmp t => t | .cell t _ => t) < F.ntmps)))) = true)
    (h : vcC ct = vc P F (.val r) n ct (.code code) [] ⟨initL args 0, []⟩) : FSpec P f args r := by
  simp only [Bool.and_eq_true] at hk
  refine spec_enter ⟨initL args 0, []⟩ hf hb hk.1 hk.2.2 rfl (fun t => by rw [lget_initL]; simp) fun c hc => ?_
  have hv : vc P F (.val r) n ct (.code code) [] ⟨initL args 0, []⟩ := h ▸ vcC_true ct
  exact vc_sound hc hk.2.1 n ct (.code code) [] _ hv
abbrev Ct.r {P : Program} (n : Nat) (k : Ct P) : Ct P := .run n [] trivial k
def upd1 {γ : Type} (k : Nat) (x : γ) : List (Nat × γ) → List (Nat × γ)
  | [] => []
  | (j, y) :: r => bif Nat.beq j k then (j, x) :: r else (j, y) :: upd1 k x r
def updL {γ : Type} : List (Nat × γ) → List (Nat × γ) → List (Nat × γ)
  | [], l => l
  | (k, x) :: r, l => updL r (upd1 k x l)
abbrev updS (s : LS) (ts : List (Nat × AV)) (bs : List (Nat × Bx)) : LS := ⟨updL ts s.tm, updL bs s.bx⟩
def eqs : List Nat → List Prop
  | [] => []
  | b :: r => (b = b) :: eqs r
theorem eqsP : ∀ l, allP (eqs l)
  | [] => trivial
  | _ :: r => ⟨rfl, eqsP r⟩
theorem sO {a b : Int} (h : a = b := by first | omega | rfl) : Sub (aI a) (aI b) := Sub.of_eq (congrArg aI h)
theorem sB {x : Bx} : ∃ z, some x = some z ∧ SubB z x := ⟨_, rfl, SubB.refl _⟩
theorem bb1 {x0 : Bx} : (∃ z, some x0 = some z ∧ SubB z x0) ∧ True := ⟨sB, trivial⟩
theorem bb2 {x0 x1 : Bx} : (∃ z, some x0 = some z ∧ SubB z x0) ∧ (∃ z, some x1 = some z ∧ SubB z x1) ∧ True := ⟨sB, sB, trivial⟩
theorem bb3 {x0 x1 x2 : Bx} : (∃ z, some x0 = some z ∧ SubB z x0) ∧ (∃ z, some x1 = some z ∧ SubB z x1) ∧ (∃ z, some x2 = some z ∧ SubB z x2) ∧ True := ⟨sB, sB, sB, trivial⟩
theorem bb4 {x0 x1 x2 x3 : Bx} : (∃ z, some x0 = some z ∧ SubB z x0) ∧ (∃ z, some x1 = some z ∧ SubB z x1) ∧ (∃ z, some x2 = some z ∧ SubB z x2) ∧ (∃ z, some x3 = some z ∧ SubB z x3) ∧ True := ⟨sB, sB, sB, sB, trivial⟩
theorem bb5 {x0 x1 x2 x3 x4 : Bx} : (∃ z, some x0 = some z ∧ SubB z x0) ∧ (∃ z, some x1 = some z ∧ SubB z x1) ∧ (∃ z, some x2 = some z ∧ SubB z x2) ∧ (∃ z, some x3 = some z ∧ SubB z x3) ∧ (∃ z, some x4 = some z ∧ SubB z x4) ∧ True := ⟨sB, sB, sB, sB, sB, trivial⟩
namespace Ct
variable {P : Program}
def u (n : Nat) (l : List Nat) (k : Ct P) : Ct P := .run n (eqs l) (eqsP l) k
def fi (r : AV) (l : List Nat) : Ct P := .fin (eqs l) (eqsP l) (Sub.refl r)
def f (r : AV) (l : List Nat) (x : AV) (h : Sub x r) : Ct P := .fin (eqs l) (eqsP l) h
def lm (t : Nat) {β γ : Type} (l : List β) (g : β → γ) (k : Ct P) : Ct P := .val t (show (aI ((l.map g).length : Int) : AV) = aI (l.length : Int) from by rw [List.length_map]) k
def be (t : Nat) {α : Type} [BEq α] [LawfulBEq α] (a b : α) (k1 : a = b → Ct P) (k2 : ¬ a = b → Ct P) : Ct P := .br t (a == b) (fun q => k1 (by simpa using q)) (fun q => k2 (by simpa using q))
def bn (t : Nat) {α : Type} [BEq α] [LawfulBEq α] (a b : α) (k1 : ¬ a = b → Ct P) (k2 : a = b → Ct P) : Ct P := .br t (a != b) (fun q => k1 (by simpa using q)) (fun q => k2 (by simpa using q))
def bd (t : Nat) (p : Prop) [Decidable p] (k1 : p → Ct P) (k2 : ¬ p → Ct P) : Ct P := .br t (decide p) (fun q => k1 (of_decide_eq_true q)) (fun q => k2 (of_decide_eq_false q))
def bb (t : Nat) (b : Bool) (k1 : b = true → Ct P) (k2 : b = false → Ct P) : Ct P := .br t b k1 k2
def nbe (t : Nat) {α : Type} [BEq α] [LawfulBEq α] (a b : α) (k1 : ¬ a = b → Ct P) (k2 : a = b → Ct P) : Ct P := .br t (!(a == b)) (fun q => k1 (by simpa using q)) (fun q => k2 (by simpa using q))
def nbb (t : Nat) (b : Bool) (k1 : b = false → Ct P) (k2 : b = true → Ct P) : Ct P := .br t (!b) (fun q => k1 (by simpa using q)) (fun q => k2 (by simpa using q))
def lp {α : Type} (L : Lp α) (a0 : α) (hH : L.H a0) (ts : List (Nat × AV)) (bs : List (Nat × Bx)) (h1 : leT (updS (L.st a0) ts bs) (L.st a0).tm) (h2 : leB (updS (L.st a0) ts bs) (L.st a0).bx) (c : ∀ a, L.H a → Ct P) : Ct P := .loop L a0 hH (updS (L.st a0) ts bs) h1 h2 c
def bk {α : Type} (L : Lp α) (a b : α) (hH : L.H b) (hμ : L.μ b < L.μ a) (ts : List (Nat × AV)) (bs : List (Nat × Bx)) (h1 : leT (updS (L.st b) ts bs) (L.st b).tm) (h2 : leB (updS (L.st b) ts bs) (L.st b).bx) : Ct P := .back L a b hH hμ (updS (L.st b) ts bs) h1 h2
def bk0 {α : Type} (L : Lp α) (b : α) (hH : L.H b) (ts : List (Nat × AV)) (bs : List (Nat × Bx)) (h1 : leT (updS (L.st b) ts bs) (L.st b).tm) (h2 : leB (updS (L.st b) ts bs) (L.st b).bx) : Ct P := .back0 L b hH (updS (L.st b) ts bs) h1 h2
def jo {α : Type} (J : Jn α) (b : α) (ts : List (Nat × AV)) (bs : List (Nat × Bx)) (h1 : leT (updS (J.st b) ts bs) (J.st b).tm) (h2 : leB (updS (J.st b) ts bs) (J.st b).bx) (hH : J.H b := by trivial) : Ct P := .join J b hH (updS (J.st b) ts bs) h1 h2
def cs {f : FuncId} {args0 args : List AV} {r : AV} (h : FSpec P f args r) (hs : SubAll args0 args) (k : Ct P) : Ct P := .callS hs h k
end Ct
theorem spec_vd {P : Program} {f : FuncId} {F : Func} {code : Code} {args : List AV} {r : AV} (hf : P.funcs[f]? = some F) (ct : Ct P) (n : Nat := 400) (hb : F.body = some code := by rfl)
    (hk : (decide (args.length ≤ F.ntmps) && (P.follows .mixedOrders && (F.results.toList.all fun rv => decide ((match rv with | .tmp t => t | .cell t _ => t) < F.ntmps)))) = true := by kernel_rfl)
    (h : vcC ct = vc P F (.val r) n ct (.code code) [] ⟨initL args 0, []⟩ := by kernel_rfl) : FSpec P f args r := spec_vc n ct hf hb hk h
theorem beqT {α : Type} [BEq α] [LawfulBEq α] {a b : α} (h : (a == b) = true) : a = b := by simpa using h
theorem beqF {α : Type} [BEq α] [LawfulBEq α] {a b : α} (h : (a == b) = false) : ¬ a = b := by simpa using h
theorem bneT {α : Type} [BEq α] [LawfulBEq α] {a b : α} (h : (a != b) = true) : ¬ a = b := by simpa using h
theorem bneF {α : Type} [BEq α] [LawfulBEq α] {a b : α} (h : (a != b) = false) : a = b := by simpa using h
theorem decT {p : Prop} [Decidable p] (h : decide p = true) : p := of_decide_eq_true h
theorem decF {p : Prop} [Decidable p] (h : decide p = false) : ¬ p := of_decide_eq_false h
theorem booT {b : Bool} (h : b = true) : b = true := h
theorem booF {b : Bool} (h : b = false) : b = false := h
theorem eqlN {P : Program} {k : IntKind} {t : TypeId} {a b : Int} (D : Nat → Prop) (w : World) (xo yo : Operand) (u v : Value) (hu : Ra D w (.val (.int k a)) u) (hv : Ra D w (.val (.int k b)) v) :
    ∃ r, ((do Go.eqGuard .eql t xo yo u v; Go.binOp .eql t u v) : Sem Value).run P w = .ok r w ∧ Ra D w (aB (a == b)) r := by
  cases hu; cases hv; exact ⟨_, by simp [eqGuard, binOp, Op.intCmp], .val _⟩
theorem lssN {P : Program} {k : IntKind} {t : TypeId} {a b : Int} (D : Nat → Prop) (w : World) (xo yo : Operand) (u v : Value) (hu : Ra D w (.val (.int k a)) u) (hv : Ra D w (.val (.int k b)) v) :
    ∃ r, ((do Go.eqGuard .lss t xo yo u v; Go.binOp .lss t u v) : Sem Value).run P w = .ok r w ∧ Ra D w (aB (decide (a < b))) r := by
  cases hu; cases hv; exact ⟨_, by simp [eqGuard, binOp, Op.intCmp], .val _⟩
theorem notT {b : Bool} (h : (!b) = true) : b = false := by simpa using h
theorem notF {b : Bool} (h : (!b) = false) : b = true := by simpa using h
end Go.Proofs.YtlcepboedifniaaGreatDoor
