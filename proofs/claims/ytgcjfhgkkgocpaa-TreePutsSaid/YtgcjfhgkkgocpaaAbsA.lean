/- Abstract values and states over any program: what a function's slots and boxes hold, its data apart from memory; how they stand while worlds go on. No conditions beyond each law's own. Steps of operations over abstract states, and the orders of a region: one order, checked by program, stands for all. Over any program. No conditions beyond each law's own. Walks over abstract states: the rules of code, what a function answers as data (FSpec), how a body's walk gives it. Over any program. No conditions beyond each law's own. Abstract states as lists, and what an operation makes of one, computed: operations that only look and compute. Over any program. No conditions beyond each law's own. What an operation makes of an abstract state, computed: structs built, stores, slices' literals; runs of such operations. Over any program. No conditions beyond each law's own. -/
import Derived.Test.YtgcjfhgkkgocpaaTaking
import Derived.Orders
import Derived.Tactics
import Derived.ScopeJumps
set_option linter.unusedVariables false
namespace Copyhold
open Go Go.RowKit
inductive MK where
  | i (z : Int)
  | s (l : List UInt8)
  deriving DecidableEq
def MK.val : MK → Value
  | .i z => .int .i64 z
  | .s l => .string ⟨⟨l⟩⟩
inductive AV where
  | val (v : Value)
  | any
  | sl (k : Nat) (t : Bool) (xs : List (List AV))
  | agg (cs : List AV)
  | dptr (cs : List AV)
  | tup (l : List AV)
  | ptr (id b off : Nat)
  | rw (id : Nat) (V : Value) (n : Nat)
  | ep (id : Nat) (V : Value) (k i off : Nat)
  | clo (f : FuncId) (caps : List AV)
  | mp (es : List (MK × AV))
  | mref (id r : Nat)
  | pre (k : Nat) (xs : List (List AV)) (i : Nat)
  | rs (id : Nat) (V : Value) (k lo : Nat)
inductive Ra (D : Nat → Prop) (w : World) : AV → Value → Prop
  | val (v : Value) : Ra D w (.val v) v
  | any (v : Value) : Ra D w .any v
  | sl (k : Nat) (t : Bool) (xs : List (List AV)) (A : Option Addr) (c b off : Nat) (vs : Nat → Nat → Value) :
      xs.length ≤ c → (t = true → c = xs.length) → (0 < xs.length → A = some ⟨b, off, none⟩ ∧ D b ∧ b < w.heap.size) →
      (∀ (i : Nat) (e : List AV), xs[i]? = some e → e.length = k) →
      (∀ (i : Nat) (e : List AV) (j : Nat) (x : AV), xs[i]? = some e → e[j]? = some x → w.cell? ⟨b, off + (i * k + j), none⟩ = some (vs i j) ∧ (vs i j).oneCell' = true) →
      (∀ (i : Nat) (e : List AV) (j : Nat) (x : AV), xs[i]? = some e → e[j]? = some x → Ra D w x (vs i j)) → Ra D w (.sl k t xs) (.slice A xs.length c)
  | agg (cs : List AV) (vs : Array Value) : cs.length = vs.size → (∀ (j : Nat) (v : Value), vs[j]? = some v → v.oneCell' = true) →
      (∀ (j : Nat) (x : AV) (v : Value), cs[j]? = some x → vs[j]? = some v → Ra D w x v) → Ra D w (.agg cs) (.agg vs)
  | dptr (cs : List AV) (b off : Nat) (vs : Nat → Value) : D b → b < w.heap.size →
      (∀ (j : Nat) (x : AV), cs[j]? = some x → w.cell? ⟨b, off + j, none⟩ = some (vs j) ∧ (vs j).oneCell' = true) →
      (∀ (j : Nat) (x : AV), cs[j]? = some x → Ra D w x (vs j)) → Ra D w (.dptr cs) (.pointer (some ⟨b, off, none⟩))
  | tup (l : List AV) (vs : Array Value) : l.length = vs.size → (∀ (j : Nat) (x : AV) (v : Value), l[j]? = some x → vs[j]? = some v → Ra D w x v) → Ra D w (.tup l) (.tuple vs)
  | ptr (id b off : Nat) : Ra D w (.ptr id b off) (.pointer (some ⟨b, off, none⟩))
  | rw (id n c : Nat) (A : Option Addr) : Ra D w (.rw id (.slice A n c) n) (.slice A n c)
  | ep (id b n cap k i off : Nat) : Ra D w (.ep id (.slice (some ⟨b, 0, none⟩) n cap) k i off) (.pointer (some ⟨b, i * k + off, none⟩))
  | clo (f : FuncId) (caps : List AV) (vs : Array Value) : caps.length = vs.size → (∀ (j : Nat) (x : AV) (v : Value), caps[j]? = some x → vs[j]? = some v → Ra D w x v) → Ra D w (.clo f caps) (.func (.func f) #[] vs)
  | mp (es : List (MK × AV)) (r : Nat) (es' : Array MapEntry) (clock : Nat) : D r → r < w.heap.size → w.heap[r]? = some (.map es' clock) → es.length = es'.size →
      (∀ (j : Nat) (p : MK × AV) (e : MapEntry), es[j]? = some p → es'[j]? = some e → e.key = p.1.val) →
      (∀ (j : Nat) (p : MK × AV) (e : MapEntry), es[j]? = some p → es'[j]? = some e → Ra D w p.2 e.val) → Ra D w (.mp es) (.map (some r))
  | mref (id r : Nat) : Ra D w (.mref id r) (.map (some r))
  | pre (k : Nat) (xs : List (List AV)) (i : Nat) (A : Option Addr) (c : Nat) : Ra D w (.sl k true xs) (.slice A xs.length c) → i ≤ xs.length → Ra D w (.pre k xs i) (.slice A i c)
  | rs (id b n cap k lo : Nat) : lo < n → Ra D w (.rs id (.slice (some ⟨b, 0, none⟩) n cap) k lo) (.slice (some ⟨b, lo * k, none⟩) (n - lo) (cap - lo))
theorem Ra.frame {D D' : Nat → Prop} {w w' : World} {x : AV} {v : Value} (h : Ra D w x v) (hD : ∀ b, D b → D' b) (hs : w.heap.size ≤ w'.heap.size)
    (hk : ∀ b, D b → b < w.heap.size → w'.heap[b]? = w.heap[b]?) : Ra D' w' x v := by
  induction h with
  | val v => exact .val v
  | any v => exact .any v
  | sl k t xs A c b off vs h1 h2 h3 h4 h5 h6 ih =>
    by_cases h0 : 0 < xs.length
    · obtain ⟨hA, hDb, hb⟩ := h3 h0
      exact .sl k t xs A c b off vs h1 h2 (fun _ => ⟨hA, hD b hDb, Nat.lt_of_lt_of_le hb hs⟩) h4
        (fun i e j x he hx => ⟨(World.cell?_of_block (hk b hDb hb)).trans (h5 i e j x he hx).1, (h5 i e j x he hx).2⟩) ih
    · have hx : xs = [] := List.eq_nil_of_length_eq_zero (by omega)
      subst hx
      exact .sl k t [] A c b off vs h1 h2 (fun h => absurd h h0) (fun i e h => by simp at h) (fun i e j x h => by simp at h) (fun i e j x h => by simp at h)
  | agg cs vs h1 h2 h3 ih => exact .agg cs vs h1 h2 ih
  | dptr cs b off vs h1 h2 h3 h4 ih =>
    exact .dptr cs b off vs (hD b h1) (Nat.lt_of_lt_of_le h2 hs) (fun j x hx => ⟨(World.cell?_of_block (hk b h1 h2)).trans (h3 j x hx).1, (h3 j x hx).2⟩) ih
  | tup l vs h1 h2 ih => exact .tup l vs h1 ih
  | ptr id b off => exact .ptr id b off
  | rw id n c A => exact .rw id n c A
  | ep id b n cap k i off => exact .ep id b n cap k i off
  | clo f caps vs h1 h2 ih => exact .clo f caps vs h1 ih
  | mp es r es' clock h1 h2 h3 h4 h5 h6 ih => exact .mp es r es' clock (hD r h1) (Nat.lt_of_lt_of_le h2 hs) ((hk r h1 h2).trans h3) h4 h5 ih
  | mref id r => exact .mref id r
  | pre k xs i A c h1 h2 ih => exact .pre k xs i A c ih h2
  | rs id b n cap k lo h => exact .rs id b n cap k lo h
inductive Bx where
  | box (b : Nat) (T : TypeId) (cs : List AV)
  | row (V : Value) (e : TypeId) (k : Nat) (xs : List (List AV))
  | mp (r : Nat) (es : List (MK × AV))
def Bx.blk : Bx → Option Nat
  | .box b _ _ => some b
  | .row V _ _ _ => V.ownBlock
  | .mp r _ => some r
def BoxR (D : Nat → Prop) (w : World) : Bx → Prop
  | .box b T cs => ∃ vs : Array Value, TBox w b T vs ∧ vs.size = cs.length ∧ (∀ (j : Nat) (v : Value), vs[j]? = some v → v.oneCell' = true) ∧ ∀ (j : Nat) (a : AV) (v : Value), cs[j]? = some a → vs[j]? = some v → Ra D w a v
  | .row V e k xs => (∀ l ∈ xs, l.length = k) ∧ ∃ us : List Value, w.ownsRow 0 e k V xs.length us ∧ (∀ u ∈ us, u.oneCell' = true) ∧ ∀ (j : Nat) (a : AV) (u : Value), xs.flatten[j]? = some a → us[j]? = some u → Ra D w a u
  | .mp r es => ∃ (es' : Array MapEntry) (clock : Nat), w.heap[r]? = some (.map es' clock) ∧ es.length = es'.size ∧ (∀ (j : Nat) (p : MK × AV) (e : MapEntry), es[j]? = some p → es'[j]? = some e → e.key = p.1.val) ∧
      ∀ (j : Nat) (p : MK × AV) (e : MapEntry), es[j]? = some p → es'[j]? = some e → Ra D w p.2 e.val
theorem owns_block_same {w w' : World} {e : TypeId} {k n : Nat} {V : Value} {us : List Value} (h : w.ownsRow 0 e k V n us) (hb : ∀ g, V.ownBlock = some g → w'.heap[g]? = w.heap[g]?) : w'.ownsRow 0 e k V n us := by
  refine ⟨h.1, ?_⟩
  rcases h.2 with h' | ⟨g, cap, cur, rfl, hg, hgg, r⟩
  · exact .inl h'
  · exact .inr ⟨g, cap, cur, rfl, hg, by rw [hb g rfl]; exact hgg, r⟩
theorem owns_lt {w : World} {e : TypeId} {k n : Nat} {V : Value} {us : List Value} (h : w.ownsRow 0 e k V n us) {g : Nat} (hg : V.ownBlock = some g) : g < w.heap.size := (own_block_ge h g hg).2
theorem BoxR.frame {D D' : Nat → Prop} {w w' : World} {x : Bx} (h : BoxR D w x) (hD : ∀ b, D b → D' b) (hs : w.heap.size ≤ w'.heap.size)
    (hk : ∀ b, D b → b < w.heap.size → w'.heap[b]? = w.heap[b]?) (hx : ∀ g, x.blk = some g → w'.heap[g]? = w.heap[g]?) : BoxR D' w' x := by
  cases x with
  | box b T cs =>
    obtain ⟨vs, h1, h2, h3, h4⟩ := h
    exact ⟨vs, (hx b rfl).trans h1, h2, h3, fun j a v ha hv => (h4 j a v ha hv).frame hD hs hk⟩
  | row V e k xs =>
    obtain ⟨h0, us, h1, h2, h3⟩ := h
    exact ⟨h0, us, owns_block_same h1 hx, h2, fun j a v ha hv => (h3 j a v ha hv).frame hD hs hk⟩
  | mp r es =>
    obtain ⟨es', clock, h1, h2, h3, h4⟩ := h
    exact ⟨es', clock, (hx r rfl).trans h1, h2, h3, fun j p e hp he => (h4 j p e hp he).frame hD hs hk⟩
theorem BoxR.lt {D : Nat → Prop} {w : World} {x : Bx} (h : BoxR D w x) {g : Nat} (hg : x.blk = some g) : g < w.heap.size := by
  cases x with
  | box b T cs =>
    obtain ⟨vs, h1, _⟩ := h
    obtain rfl := Option.some.inj hg
    exact h1.lt
  | row V e k xs =>
    obtain ⟨h0, us, h1, _⟩ := h
    exact owns_lt h1 hg
  | mp r es =>
    obtain ⟨es', clock, h1, _⟩ := h
    obtain rfl := Option.some.inj hg
    exact (Array.getElem?_eq_some_iff.1 h1).1
structure FS where
  tm : Nat → AV
  bx : Nat → Option Bx
def FS.ev (s : FS) : Operand → AV
  | .tmp t => s.tm t
  | .const v => .val v
  | .global g => .val (.pointer (some ⟨g, 0, none⟩))
  | .func f => .val (.func (.func f) #[] #[])
def FS.put (s : FS) (d : Option Tmp) (x : AV) : FS :=
  match d with
  | some d => { s with tm := fun t => if t = d then x else s.tm t }
  | none => s
def FS.setB (s : FS) (id : Nat) (y : Option Bx) : FS := { s with bx := fun i => if i = id then y else s.bx i }
def FS.addB (s : FS) : Option (Nat × Bx) → FS
  | none => s
  | some (id, y) => s.setB id (some y)
structure Cx where
  base : Nat
  w0 : World
  n : Nat
  D0 : Nat → Prop
structure RelD (c : Cx) (D : Nat → Prop) (s : FS) (a : Act) (w : World) : Prop where
  defers : a.defers = []
  size : a.tmps.size = c.n
  below : Below c.base c.w0 w
  dlt : ∀ b, D b → b < w.heap.size
  old : (∀ b, c.D0 b → D b) ∧ ∀ b, D b → c.D0 b ∨ c.base ≤ b
  tm : ∀ t v, a.tmps[t]? = some v → Ra D w (s.tm t) v
  bx : ∀ id x, s.bx id = some x → (∀ g, x.blk = some g → c.base ≤ g ∧ ¬ D g) ∧ BoxR D w x
  apart : ∀ i j x y, s.bx i = some x → s.bx j = some y → i ≠ j → ∀ g, x.blk = some g → y.blk ≠ some g
def Rel (c : Cx) (s : FS) (a : Act) (w : World) : Prop := c.base ≤ w.heap.size ∧ ∃ D, RelD c D s a w
theorem RelD.ev {c : Cx} {D : Nat → Prop} {s : FS} {a : Act} {w : World} (h : RelD c D s a w) (y : Operand) (hy : ∀ t, y = .tmp t → t < c.n) : Ra D w (s.ev y) (a.eval y) := by
  cases y with
  | tmp t =>
    have ht := hy t rfl
    rw [← h.size] at ht
    have := h.tm t a.tmps[t] (Array.getElem?_eq_getElem ht)
    simpa [FS.ev, Act.eval, ht] using this
  | const v => exact .val v
  | global g => exact .val _
  | func f => exact .val _
theorem RelD.boxes {c : Cx} {D : Nat → Prop} {s : FS} {a : Act} {w : World} (h : RelD c D s a w) : ∀ id x, s.bx id = some x → BoxR D w x := fun id x hx => (h.bx id x hx).2
theorem tmps_put {a : Act} {d : Option Tmp} {v : Value} {t : Nat} {u : Value} (h : (a.put d v).tmps[t]? = some u) : (d = some t ∧ u = v) ∨ (d ≠ some t ∧ a.tmps[t]? = some u) := by
  cases d with
  | none => exact .inr ⟨by simp, h⟩
  | some d =>
    by_cases hd : d = t
    · subst hd
      simp only [Act.put, Array.getElem?_setIfInBounds] at h
      split at h
      · split at h
        · exact .inl ⟨rfl, (Option.some.inj h).symm⟩
        · cases h
      · rename_i hne
        exact absurd trivial hne
    · simp only [Act.put, Array.getElem?_setIfInBounds_ne hd] at h
      exact .inr ⟨by simpa using hd, h⟩
theorem RelD.put {c : Cx} {D : Nat → Prop} {s : FS} {a : Act} {w : World} (h : RelD c D s a w) (d : Option Tmp) {x : AV} {v : Value} (hv : Ra D w x v) : RelD c D (s.put d x) (a.put d v) w := by
  refine ⟨?_, ?_, h.below, h.dlt, h.old, fun t u hu => ?_, ?_, ?_⟩
  · cases d <;> exact h.defers
  · cases d <;> simp [Act.put, h.size]
  · rcases tmps_put hu with ⟨rfl, rfl⟩ | ⟨hd, hu2⟩
    · simpa [FS.put] using hv
    · have := h.tm t u hu2
      cases d with
      | none => exact this
      | some d =>
        have : t ≠ d := fun e => hd (by rw [e])
        simpa [FS.put, this] using h.tm t u hu2
  · cases d <;> exact h.bx
  · cases d <;> exact h.apart
theorem RelD.grow {c : Cx} {D D' : Nat → Prop} {s : FS} {a : Act} {w w' : World} (h : RelD c D s a w) (hc : c.base ≤ w.heap.size) (hb : Below w.heap.size w w') (hD : ∀ b, D b → D' b)
    (hD' : ∀ b, D' b → b < w'.heap.size ∧ (D b ∨ w.heap.size ≤ b)) (nb : Option (Nat × Bx))
    (hnb : ∀ id y, nb = some (id, y) → s.bx id = none ∧ (∀ g, y.blk = some g → w.heap.size ≤ g ∧ ¬ D' g) ∧ BoxR D' w' y) : RelD c D' (s.addB nb) a w' := by
  have hold : ∀ id x, s.bx id = some x → (∀ g, x.blk = some g → c.base ≤ g ∧ ¬ D' g) ∧ BoxR D' w' x := fun id x hx => by
    obtain ⟨h1, h3⟩ := h.bx id x hx
    refine ⟨fun g hg => ⟨(h1 g hg).1, fun hd => ?_⟩, h3.frame hD hb.size (fun b _ hl => hb.block b hl) (fun g hg => hb.block _ (h3.lt hg))⟩
    have := h3.lt hg
    rcases (hD' _ hd).2 with h' | h'
    · exact (h1 g hg).2 h'
    · omega
  refine ⟨h.defers, h.size, h.below.trans (hb.mono hc), fun b hd => (hD' b hd).1, ⟨fun b hb => hD b (h.old.1 b hb), fun b hb => ?_⟩, ?_, ?_, ?_⟩
  · rcases (hD' b hb).2 with h' | h'
    · exact h.old.2 b h'
    · exact .inr (Nat.le_trans hc h')
  · intro t v hv
    have := (h.tm t v hv).frame (w' := w') hD hb.size (fun b _ hl => hb.block b hl)
    rcases nb with _ | ⟨id, y⟩ <;> exact this
  · rcases nb with _ | ⟨id, y⟩
    · exact hold
    · intro i x hx
      simp only [FS.addB, FS.setB] at hx
      split at hx
      · obtain rfl := Option.some.inj hx
        obtain ⟨_, h1, h3⟩ := hnb id y rfl
        exact ⟨fun g hg => ⟨Nat.le_trans hc (h1 g hg).1, (h1 g hg).2⟩, h3⟩
      · exact hold i x hx
  · rcases nb with _ | ⟨id, y⟩
    · exact h.apart
    · obtain ⟨h0, h1, h3⟩ := hnb id y rfl
      intro i j x x' hx hx' hij g hg hg'
      simp only [FS.addB, FS.setB] at hx hx'
      split at hx <;> split at hx'
      · rename_i e1 e2; exact absurd (e1.trans e2.symm) hij
      · obtain rfl := Option.some.inj hx
        have := (h.bx j x' hx').2.lt hg'
        have := (h1 g hg).1
        omega
      · obtain rfl := Option.some.inj hx'
        have := (h.bx i x hx).2.lt hg
        have := (h1 g hg').1
        omega
      · exact h.apart i j x x' hx hx' hij g hg hg'
theorem RelD.mutF {c : Cx} {D D' : Nat → Prop} {s : FS} {a : Act} {w w' : World} (h : RelD c D s a w) (hc : c.base ≤ w.heap.size) (id : Nat) (y y' : Bx) (hy : s.bx id = some y) (h0 : Below 0 w w')
    (hk : ∀ k, y.blk ≠ some k → k < w.heap.size → w'.heap[k]? = w.heap[k]?) (hDD : ∀ b, D b → D' b) (hD' : ∀ b, D' b → b < w'.heap.size ∧ (D b ∨ y.blk = some b ∨ w.heap.size ≤ b))
    (hb : ∀ g, y'.blk = some g → (y.blk = some g ∨ w.heap.size ≤ g) ∧ ¬ D' g) (hR : BoxR D' w' y') : RelD c D' (s.setB id (some y')) a w' := by
  have hyb := (h.bx id y hy)
  have hkD : ∀ b, D b → b < w.heap.size → w'.heap[b]? = w.heap[b]? := fun b hd hl => hk b (fun e => (hyb.1 b e).2 hd) hl
  refine ⟨h.defers, h.size, ?_, fun b hd => (hD' b hd).1, ⟨fun b hb => hDD b (h.old.1 b hb), fun b hb => ?_⟩, fun t v hv => (h.tm t v hv).frame hDD h0.size hkD, ?_, ?_⟩
  · refine ⟨h0.os.trans h.below.os, h0.tape.trans h.below.tape, h0.output.trans h.below.output, Nat.le_trans h.below.size h0.size, fun k hlt => ?_⟩
    rw [hk k (fun e => by have := (hyb.1 k e).1; omega) (by omega)]
    exact h.below.block k hlt
  · rcases (hD' b hb).2 with e | e | e
    · exact h.old.2 b e
    · exact .inr (hyb.1 b e).1
    · exact .inr (Nat.le_trans hc e)
  · intro i x hx
    simp only [FS.setB] at hx
    split at hx
    · obtain rfl := Option.some.inj hx
      refine ⟨fun g hg => ⟨?_, (hb g hg).2⟩, hR⟩
      rcases (hb g hg).1 with e | e
      · exact (hyb.1 g e).1
      · exact Nat.le_trans hc e
    · rename_i hne
      obtain ⟨h1, h3⟩ := h.bx i x hx
      refine ⟨fun g hg => ⟨(h1 g hg).1, fun hd => ?_⟩, h3.frame hDD h0.size hkD (fun g hg => hk _ (h.apart i id x y hx hy hne g hg) (h3.lt hg))⟩
      rcases (hD' g hd).2 with e | e | e
      · exact (h1 g hg).2 e
      · exact h.apart i id x y hx hy hne g hg e
      · have := h3.lt hg; omega
  · intro i j x x' hx hx' hij g hg hg'
    simp only [FS.setB] at hx hx'
    split at hx <;> split at hx'
    · rename_i e1 e2; exact absurd (e1.trans e2.symm) hij
    · rename_i e1 e2
      obtain rfl := Option.some.inj hx
      have h3 := (h.bx j x' hx').2.lt hg'
      rcases (hb g hg).1 with e | e
      · exact h.apart id j y x' hy hx' (fun e => e2 e.symm) g e hg'
      · omega
    · rename_i e1 e2
      obtain rfl := Option.some.inj hx'
      have h3 := (h.bx i x hx).2.lt hg
      rcases (hb g hg').1 with e | e
      · exact h.apart i id x y hx hy e1 g hg e
      · omega
    · exact h.apart i j x x' hx hx' hij g hg hg'
end Copyhold

set_option linter.unusedVariables false
namespace Copyhold
open Go Go.RowKit
def isLd : Op → Bool
  | .load _ _ => true
  | _ => false
def isRd (P : Program) : Op → Bool
  | .binOp _ t _ _ _ =>
    match P.underlying t with
    | some (.slice _) => false
    | _ => true
  | .move _ | .assign _ | .pick _ _ _ | .fieldAddr _ _ _ | .field _ _ _ | .extract _ _ | .unOp _ _ _ | .load _ _ | .indexAddr _ _ _ | .index _ _ _
  | .slice _ _ _ _ _ | .convert _ _ _ | .build _ _ | .makeFunc _ _ _ | .nilCheck _ => true
  | .call { callee := .builtin .len, .. } | .call { callee := .builtin .cap, .. } | .call { callee := .builtin .max, .. } | .call { callee := .builtin .min, .. }
  | .call { callee := .builtin .real, .. } | .call { callee := .builtin .imag, .. } | .call { callee := .builtin .complex, .. } => true
  | _ => false
def isMut : Op → Bool
  | .store _ _ _ | .insert _ _ _ _ | .mapUpdate _ _ _ _ => true
  | .call { callee := .builtin .append, .. } | .call { callee := .builtin .copy, .. } => true
  | _ => false
def gd (ops : Array Oper) (s : FS) (o : Oper) : Option Bool :=
  match o.guard with
  | none => some true
  | some (j, c) =>
    match (ops[j]?).bind (·.dst) with
    | some t =>
      match s.tm t with
      | .val (.bool b) => some (b == c)
      | .val (.tuple _) => some false
      | _ => none
    | none => none
def opsR (D : Nat → Prop) (w : World) (s : FS) (ρ : Operand → Value) (o : Oper) : Prop := ∀ y ∈ o.op.operands, Ra D w (s.ev y) (ρ y)
def PureOK (P : Program) (o : Oper) (s : FS) (x : AV) : Prop :=
  ∀ (D : Nat → Prop) (w : World) (ρ : Operand → Value), opsR D w s ρ o → ∃ v, (execOp ρ o).run P w = .ok (.value v) w ∧ Ra D w x v
def ReadOK (P : Program) (o : Oper) (s : FS) (x : AV) : Prop :=
  ∀ (D : Nat → Prop) (w : World) (ρ : Operand → Value), opsR D w s ρ o → (∀ id y, s.bx id = some y → BoxR D w y) → ∃ v, (execOp ρ o).run P w = .ok (.value v) w ∧ Ra D w x v
def MonoOK (P : Program) (o : Oper) (s : FS) (Out : AV → Option (Nat × Bx) → Prop) : Prop :=
  ∀ (D : Nat → Prop) (w : World) (a : Act) (Q : Exit → Act → World → Prop) (K : Act → World → Prop), (∀ b, D b → b < w.heap.size) → opsR D w s a.eval o → (∀ id y, s.bx id = some y → BoxR D w y) →
    (∀ v w' x nb (D' : Nat → Prop), Out x nb → Below w.heap.size w w' → (∀ b, D b → D' b) → (∀ b, D' b → b < w'.heap.size ∧ (D b ∨ w.heap.size ≤ b)) → Ra D' w' x v →
      (∀ id y, nb = some (id, y) → (∀ g, y.blk = some g → w.heap.size ≤ g ∧ ¬ D' g) ∧ BoxR D' w' y) → K (a.put o.dst v) w') → o.wp P a w K Q
def MutOK (P : Program) (o : Oper) (s : FS) (id : Nat) (Out : AV → Bx → Prop) : Prop :=
  ∀ (D : Nat → Prop) (w : World) (a : Act) (Q : Exit → Act → World → Prop) (K : Act → World → Prop), (∀ b, D b → b < w.heap.size) → opsR D w s a.eval o → (∀ id y, s.bx id = some y → BoxR D w y) →
    (∀ y g, s.bx id = some y → y.blk = some g → ¬ D g) →
    (∀ v w' x y y', Out x y' → s.bx id = some y → Below 0 w w' → (∀ k, y.blk ≠ some k → k < w.heap.size → w'.heap[k]? = w.heap[k]?) → (∀ g, y'.blk = some g → (y.blk = some g ∨ w.heap.size ≤ g) ∧ ¬ D g) →
      BoxR D w' y' → Ra D w' x v → K (a.put o.dst v) w') → o.wp P a w K Q
def MutF (P : Program) (o : Oper) (s : FS) (id : Nat) (Out : AV → Bx → Prop) : Prop :=
  ∀ (D : Nat → Prop) (w : World) (a : Act) (Q : Exit → Act → World → Prop) (K : Act → World → Prop), (∀ b, D b → b < w.heap.size) → opsR D w s a.eval o → (∀ id y, s.bx id = some y → BoxR D w y) →
    (∀ y g, s.bx id = some y → y.blk = some g → ¬ D g) →
    (∀ v w' x y y' (D' : Nat → Prop), Out x y' → s.bx id = some y → Below 0 w w' → (∀ k, y.blk ≠ some k → k < w.heap.size → w'.heap[k]? = w.heap[k]?) → (∀ b, D b → D' b) → (∀ b, D' b → b < w'.heap.size ∧ (D b ∨ y.blk = some b ∨ w.heap.size ≤ b)) →
      (∀ g, y'.blk = some g → (y.blk = some g ∨ w.heap.size ≤ g) ∧ ¬ D' g) → BoxR D' w' y' → Ra D' w' x v → K (a.put o.dst v) w') → o.wp P a w K Q
theorem MutOK.up {P : Program} {o : Oper} {s : FS} {id : Nat} {Out : AV → Bx → Prop} (h : MutOK P o s id Out) : MutF P o s id Out := fun D w a Q K hD ho hb hn hc =>
  h D w a Q K hD ho hb hn (fun v w' x y y' hO hy h0 hk hb' hB hv => hc v w' x y y' D hO hy h0 hk (fun _ h => h) (fun b hd => ⟨Nat.lt_of_lt_of_le (hD b hd) h0.size, .inl hd⟩) hb' hB hv)
def StepR (P : Program) (ops : Array Oper) (i : Nat) (s : FS) (K : FS → Prop) : Prop :=
  ∃ o, ops[i]? = some o ∧
    ((gd ops s o = some false ∧ K (s.put o.dst (.val undef))) ∨
     (gd ops s o = some true ∧
      ((∃ x, (PureOK P o s x ∨ (isLd o.op = true ∧ ReadOK P o s x)) ∧ K (s.put o.dst x)) ∨
       (isRd P o.op = false ∧ ∃ Out, MonoOK P o s Out ∧ ∀ x nb, Out x nb → (∀ id y, nb = some (id, y) → s.bx id = none) ∧ K ((s.put o.dst x).addB nb)) ∨
       (isRd P o.op = false ∧ isMut o.op = true ∧ ∃ id Out, MutF P o s id Out ∧ ∀ x y', Out x y' → K ((s.put o.dst x).setB id (some y'))))))
theorem StepR.mono {P : Program} {ops : Array Oper} {i : Nat} {s : FS} {K K' : FS → Prop} (h : StepR P ops i s K) (hk : ∀ s, K s → K' s) : StepR P ops i s K' := by
  obtain ⟨o, ho, h⟩ := h
  refine ⟨o, ho, ?_⟩
  rcases h with ⟨h1, h2⟩ | ⟨h1, h | ⟨h2, Out, h3, h4⟩ | ⟨h2, h3, id, Out, h4, h5⟩⟩
  · exact .inl ⟨h1, hk _ h2⟩
  · obtain ⟨x, hx, h2⟩ := h
    exact .inr ⟨h1, .inl ⟨x, hx, hk _ h2⟩⟩
  · exact .inr ⟨h1, .inr (.inl ⟨h2, Out, h3, fun x nb hO => ⟨(h4 x nb hO).1, hk _ (h4 x nb hO).2⟩⟩)⟩
  · exact .inr ⟨h1, .inr (.inr ⟨h2, h3, id, Out, h4, fun x y hO => hk _ (h5 x y hO)⟩)⟩
def slotsOk (n : Nat) (ops : Array Oper) : Bool :=
  ops.all fun o => (match o.dst with | some d => decide (d < n) | none => true) && o.op.operands.all fun | .tmp t => decide (t < n) | _ => true
theorem slotsOk_dst {n : Nat} {ops : Array Oper} (h : slotsOk n ops = true) {i : Nat} {o : Oper} (ho : ops[i]? = some o) {d : Nat} (hd : o.dst = some d) : d < n := by
  have := Array.all_eq_true_iff_forall_mem.1 h o (Array.mem_of_getElem? ho)
  simp [hd] at this
  exact this.1
theorem slotsOk_op {n : Nat} {ops : Array Oper} (h : slotsOk n ops = true) {i : Nat} {o : Oper} (ho : ops[i]? = some o) {y : Operand} (hy : y ∈ o.op.operands) : ∀ t, y = .tmp t → t < n := by
  intro t ht
  have := Array.all_eq_true_iff_forall_mem.1 h o (Array.mem_of_getElem? ho)
  simp only [Bool.and_eq_true] at this
  have := Array.all_eq_true_iff_forall_mem.1 this.2 y hy
  subst ht
  simpa using this
theorem gd_wanted {c : Cx} {D : Nat → Prop} {ops : Array Oper} {s : FS} {a : Act} {w : World} (hs : slotsOk c.n ops = true) (h : RelD c D s a w) {o : Oper} {b : Bool} (hg : gd ops s o = some b) : Region.wanted o (yielded ops a.tmps) = b := by
  unfold gd at hg
  unfold Region.wanted
  split at hg
  · rename_i e
    rw [e]
    exact Option.some.inj hg
  · rename_i j d e
    rw [e]
    split at hg
    · rename_i t ht
      split at hg
      · rename_i b' hb
        obtain rfl := Option.some.inj hg
        cases hj : ops[j]? with
        | none => rw [hj] at ht; cases ht
        | some oj =>
          rw [hj] at ht
          have hlt := slotsOk_dst hs hj ht
          rw [← h.size] at hlt
          have hv := h.tm t a.tmps[t] (Array.getElem?_eq_getElem hlt)
          rw [hb] at hv
          generalize hvv : a.tmps[t] = v at hv
          cases hv
          have : yielded ops a.tmps j = some b' := by
            unfold yielded
            rw [hj]
            have h1 : a.tmps[t]? = some (.bool b') := by rw [Array.getElem?_eq_getElem hlt, hvv]
            have h2 : oj.dst = some t := ht
            simp [h1, h2]
          simp [this]
      · rename_i vs hb
        obtain rfl := Option.some.inj hg
        cases hj : ops[j]? with
        | none => rw [hj] at ht; cases ht
        | some oj =>
          rw [hj] at ht
          have hlt := slotsOk_dst hs hj ht
          rw [← h.size] at hlt
          have hv := h.tm t a.tmps[t] (Array.getElem?_eq_getElem hlt)
          rw [hb] at hv
          generalize hvv : a.tmps[t] = v at hv
          cases hv
          have : yielded ops a.tmps j = none := by
            unfold yielded
            rw [hj]
            have h1 : a.tmps[t]? = some (.tuple vs) := by rw [Array.getElem?_eq_getElem hlt, hvv]
            have h2 : oj.dst = some t := ht
            simp [h1, h2]
          simp [this]
      · cases hg
    · cases hg
theorem put_addB (s : FS) (d : Option Tmp) (x : AV) (nb : Option (Nat × Bx)) : (s.addB nb).put d x = (s.put d x).addB nb := by
  cases d <;> rcases nb with _ | ⟨id, y⟩ <;> rfl
theorem put_setB (s : FS) (d : Option Tmp) (x : AV) (id : Nat) (y : Option Bx) : (s.setB id y).put d x = (s.put d x).setB id y := by
  cases d <;> rfl
theorem put_comm (s : FS) (d e : Option Tmp) (x y : AV) (h : ∀ t, d = some t → e ≠ some t) : (s.put d x).put e y = (s.put e y).put d x := by
  cases d with
  | none => cases e <;> rfl
  | some d =>
    cases e with
    | none => rfl
    | some e =>
      have hne : d ≠ e := fun he => h d rfl (by rw [he])
      simp only [FS.put, FS.mk.injEq, and_true]
      funext t
      by_cases h1 : t = e
      · have : t ≠ d := fun h2 => hne (h2.symm.trans h1)
        subst h1
        simp [this]
      · simp [h1]
theorem StepR.sound {c : Cx} {P : Program} {ops : Array Oper} {i : Nat} {s : FS} {K : FS → Prop} {a : Act} {w : World} {Q : Exit → Act → World → Prop} (hs : slotsOk c.n ops = true) (h : StepR P ops i s K) (hr : Rel c s a w) :
    wpOp P ops Q i (fun a' w' => ∃ s', K s' ∧ Rel c s' a' w') a w := by
  obtain ⟨o, ho, h⟩ := h
  obtain ⟨hc, D, hR⟩ := hr
  have hops : opsR D w s a.eval o := fun y hy => hR.ev y (slotsOk_op hs ho hy)
  unfold wpOp
  simp only [ho]
  rcases h with ⟨h1, h2⟩ | ⟨h1, h | ⟨h2, Out, h3, h4⟩ | ⟨h2, h3, id, Out, h4, h5⟩⟩
  · rw [if_neg (by rw [gd_wanted hs hR h1]; simp)]
    exact ⟨_, h2, hc, D, hR.put _ (.val _)⟩
  · obtain ⟨x, hx, h2⟩ := h
    rw [if_pos (gd_wanted hs hR h1)]
    left
    have : ∃ v, (execOp a.eval o).run P w = .ok (.value v) w ∧ Ra D w x v := by
      rcases hx with hx | ⟨_, hx⟩
      · exact hx D w _ hops
      · exact hx D w _ hops hR.boxes
    obtain ⟨v, hv, hxv⟩ := this
    unfold Oper.wp
    rw [hv, Oper.upon_value]
    exact ⟨_, h2, hc, D, hR.put _ hxv⟩
  · rw [if_pos (gd_wanted hs hR h1)]
    left
    refine h3 D w a Q _ hR.dlt hops hR.boxes (fun v w' x nb D' hO hb hD hD' hv hnb => ?_)
    obtain ⟨hf, hk⟩ := h4 x nb hO
    refine ⟨_, hk, Nat.le_trans hc hb.size, D', ?_⟩
    rw [← put_addB]
    exact (hR.grow hc hb hD hD' nb (fun id y hy => ⟨hf id y hy, hnb id y hy⟩)).put _ hv
  · rw [if_pos (gd_wanted hs hR h1)]
    left
    refine h4 D w a Q _ hR.dlt hops hR.boxes (fun y g hy hg => ((hR.bx id y hy).1 g hg).2) (fun v w' x y y' D' hO hy h0 hk hDD hD' hb hB hv => ?_)
    refine ⟨_, h5 x y' hO, Nat.le_trans hc h0.size, D', ?_⟩
    rw [← put_setB]
    exact (hR.mutF hc id y y' hy h0 hk hDD hD' hb hB).put _ hv
def aAny (P : Program) (ops : Array Oper) (K : FS → Prop) : Nat → Array Bool → FS → Prop
  | 0, l, s => Region.ready .any ops l = [] ∧ K s
  | f + 1, l, s => (Region.ready .any ops l = [] → K s) ∧ ∀ i ∈ Region.ready .any ops l, StepR P ops i s (aAny P ops K f (l.setIfInBounds i true))
theorem aAny_sound {c : Cx} {P : Program} {ops : Array Oper} {K : FS → Prop} {Q : Exit → Act → World → Prop} (hs : slotsOk c.n ops = true) (hQ : ∀ s a w, K s → Rel c s a w → Q .normal a w) :
    ∀ (f : Nat) (l : Array Bool) (s : FS) (a : Act) (w : World), aAny P ops K f l s → Rel c s a w → wpAny P .any ops Q f l a w
  | 0, l, s, a, w, h, hr => ⟨h.1, hQ _ _ _ h.2 hr⟩
  | f + 1, l, s, a, w, h, hr => ⟨fun he => hQ _ _ _ (h.1 he) hr, fun i hi => wpOp_mono (fun a' w' ⟨s', h', hr'⟩ => aAny_sound hs hQ f _ s' a' w' h' hr') ((h.2 i hi).sound hs hr)⟩
def Yld (P : Program) (ops : Array Oper) (o : Oper) (s : FS) (x : AV) : Prop :=
  (gd ops s o = some false ∧ x = .val undef) ∨ (gd ops s o = some true ∧ (PureOK P o s x ∨ (isLd o.op = true ∧ ReadOK P o s x)))
theorem ev_put {ops : Array Oper} {o : Oper} {s : FS} {d : Option Tmp} {x : AV} (h : ∀ t, d = some t → t ∉ o.looksAt ops) {y : Operand} (hy : y ∈ o.op.operands) : (s.put d x).ev y = s.ev y := by
  cases d with
  | none => rfl
  | some d =>
    cases y with
    | tmp t =>
      have hne : t ≠ d := fun e => h d rfl (by
        subst e
        exact List.mem_append_left _ (List.mem_filterMap.2 ⟨.tmp t, by simpa using hy, rfl⟩))
      simp [FS.ev, FS.put, hne]
    | _ => rfl
theorem gd_put {ops : Array Oper} {o : Oper} {s : FS} {d : Option Tmp} {x : AV} (h : ∀ t, d = some t → t ∉ o.looksAt ops) : gd ops (s.put d x) o = gd ops s o := by
  cases d with
  | none => rfl
  | some d =>
    unfold gd
    cases hg : o.guard with
    | none => rfl
    | some gw =>
      obtain ⟨g, want⟩ := gw
      simp only
      cases ht : (ops[g]?).bind (·.dst) with
      | none => rfl
      | some t =>
        have hne : t ≠ d := fun e => h d rfl (by subst e; simp [Oper.looksAt, hg, ht])
        simp [FS.put, hne]
theorem opsR_put {ops : Array Oper} {D : Nat → Prop} {w : World} {o : Oper} {s : FS} {d : Option Tmp} {x : AV} {ρ : Operand → Value} (h : ∀ t, d = some t → t ∉ o.looksAt ops) : opsR D w (s.put d x) ρ o ↔ opsR D w s ρ o := by
  unfold opsR
  constructor
  · intro hh y hy
    have := hh y hy
    rwa [ev_put h hy] at this
  · intro hh y hy
    rw [ev_put h hy]
    exact hh y hy
theorem bx_put (s : FS) (d : Option Tmp) (x : AV) : (s.put d x).bx = s.bx := by cases d <;> rfl
theorem gd_tm {ops : Array Oper} {o : Oper} {s s' : FS} (h : s'.tm = s.tm) : gd ops s' o = gd ops s o := by unfold gd; rw [h]
theorem opsR_tm {D : Nat → Prop} {w : World} {o : Oper} {s s' : FS} {ρ : Operand → Value} (h : s'.tm = s.tm) : opsR D w s' ρ o ↔ opsR D w s ρ o := by
  have : ∀ y, s'.ev y = s.ev y := fun y => by cases y <;> simp [FS.ev, h]
  unfold opsR
  simp only [this]
theorem PureOK.put {P : Program} {ops : Array Oper} {o : Oper} {s : FS} {d : Option Tmp} {x u : AV} (h : ∀ t, d = some t → t ∉ o.looksAt ops) : PureOK P o (s.put d u) x ↔ PureOK P o s x :=
  ⟨fun hh D w ρ ho => hh D w ρ ((opsR_put h).2 ho), fun hh D w ρ ho => hh D w ρ ((opsR_put h).1 ho)⟩
theorem ReadOK.put {P : Program} {ops : Array Oper} {o : Oper} {s : FS} {d : Option Tmp} {x u : AV} (h : ∀ t, d = some t → t ∉ o.looksAt ops) : ReadOK P o (s.put d u) x ↔ ReadOK P o s x := by
  unfold ReadOK
  simp only [opsR_put h, bx_put]
theorem MonoOK.put {P : Program} {ops : Array Oper} {o : Oper} {s : FS} {d : Option Tmp} {u : AV} {Out : AV → Option (Nat × Bx) → Prop} (h : ∀ t, d = some t → t ∉ o.looksAt ops) : MonoOK P o (s.put d u) Out ↔ MonoOK P o s Out := by
  unfold MonoOK
  simp only [opsR_put h, bx_put]
theorem MutF.put {P : Program} {ops : Array Oper} {o : Oper} {s : FS} {d : Option Tmp} {u : AV} {id : Nat} {Out : AV → Bx → Prop} (h : ∀ t, d = some t → t ∉ o.looksAt ops) : MutF P o (s.put d u) id Out ↔ MutF P o s id Out := by
  unfold MutF
  simp only [opsR_put h, bx_put]
theorem Yld.put {P : Program} {ops : Array Oper} {o : Oper} {s : FS} {d : Option Tmp} {x u : AV} (h : ∀ t, d = some t → t ∉ o.looksAt ops) (hy : Yld P ops o s x) : Yld P ops o (s.put d u) x := by
  unfold Yld
  rw [gd_put h, PureOK.put h, ReadOK.put h]
  exact hy
theorem Yld.more {P : Program} {ops : Array Oper} {o : Oper} {s s' : FS} {x : AV} (ht : s'.tm = s.tm) (hb : isLd o.op = true → ∀ id y, s.bx id = some y → s'.bx id = some y) (hy : Yld P ops o s x) : Yld P ops o s' x := by
  unfold Yld at hy ⊢
  rw [gd_tm ht]
  rcases hy with h | ⟨h1, h | ⟨h2, h⟩⟩
  · exact .inl h
  · exact .inr ⟨h1, .inl fun D w ρ ho => h D w ρ ((opsR_tm ht).1 ho)⟩
  · exact .inr ⟨h1, .inr ⟨h2, fun D w ρ ho hbx => h D w ρ ((opsR_tm ht).1 ho) (fun id y hy => hbx id y (hb h2 id y hy))⟩⟩
theorem step_put {P : Program} {ops : Array Oper} {j : Nat} {oi oj : Oper} {x : AV} {s : FS} {K : FS → Prop} (hj : ops[j]? = some oj) (hap : oi.apart ops oj = true) (hm : isLd oi.op = true → isMut oj.op = false)
    (hy : Yld P ops oi s x) (h : StepR P ops j (s.put oi.dst x) K) : StepR P ops j s (fun s' => Yld P ops oi s' x ∧ K (s'.put oi.dst x)) := by
  obtain ⟨h1, h2, h3⟩ := Oper.apart_spec hap
  obtain ⟨o, ho, h⟩ := h
  obtain rfl : oj = o := Option.some.inj (hj.symm.trans ho)
  refine ⟨oj, hj, ?_⟩
  rw [gd_put h1] at h
  rcases h with ⟨g, hk⟩ | ⟨g, h | ⟨g2, Out, g3, g4⟩ | ⟨g2, g3, id, Out, g4, g5⟩⟩
  · refine .inl ⟨g, hy.put h3, ?_⟩
    rw [put_comm _ _ _ _ _ h2] at hk
    exact hk
  · obtain ⟨xj, hx, hk⟩ := h
    rw [PureOK.put h1, ReadOK.put h1] at hx
    refine .inr ⟨g, .inl ⟨xj, hx, hy.put h3, ?_⟩⟩
    rw [put_comm _ _ _ _ _ h2] at hk
    exact hk
  · rw [MonoOK.put h1] at g3
    refine .inr ⟨g, .inr (.inl ⟨g2, Out, g3, fun y nb hO => ?_⟩)⟩
    obtain ⟨hf, hk⟩ := g4 y nb hO
    rw [bx_put] at hf
    refine ⟨hf, ?_, ?_⟩
    · refine Yld.more (s := s.put oj.dst y) ?_ ?_ (hy.put h3)
      · rcases nb with _ | ⟨id, z⟩ <;> rfl
      · intro _ id z hz
        rcases nb with _ | ⟨id', z'⟩
        · exact hz
        · have := hf id' z' rfl
          simp only [FS.addB, FS.setB]
          split
          · rename_i e
            rw [bx_put, e, this] at hz
            cases hz
          · exact hz
    · rw [put_addB, ← put_comm _ _ _ _ _ h2]
      exact hk
  · rw [MutF.put h1] at g4
    refine .inr ⟨g, .inr (.inr ⟨g2, g3, id, Out, g4, fun y z hO => ⟨?_, ?_⟩⟩)⟩
    · refine Yld.more (s := s.put oj.dst y) rfl ?_ (hy.put h3)
      intro hl
      rw [hm hl] at g3
      cases g3
    · rw [put_setB, ← put_comm _ _ _ _ _ h2]
      exact g5 y z hO
def blkA (ops : Array Oper) (l : Array Bool) (i : Nat) : Nat → Nat → Bool
  | 0, _ => false
  | n + 1, j =>
    match ops[j]? with
    | some oj => oj.after.any fun e => Region.binds .any e && (e.on == i || (!l.getD e.on true && blkA ops l i n e.on))
    | none => false
theorem done_not {l : Array Bool} {k : Nat} (h : l.getD k false = true) : l.getD k true = true := by
  rcases Nat.lt_or_ge k l.size with h' | h'
  · simp [h'] at h ⊢; exact h
  · simp [Array.getElem?_eq_none h'] at h
theorem blkA_ready {ops : Array Oper} {l : Array Bool} {i j : Nat} (hi : l.getD i true = false) (hj : j ∈ Region.ready .any ops l) : ∀ n, blkA ops l i n j = false
  | 0 => rfl
  | n + 1 => by
    obtain ⟨_, o, ho, hall⟩ := mem_ready.1 hj
    unfold blkA
    rw [ho]
    refine Bool.eq_false_iff.2 fun h => ?_
    obtain ⟨e, he, hb⟩ := Array.any_eq_true'.1 h
    simp only [Bool.and_eq_true, Bool.or_eq_true, beq_iff_eq, Bool.not_eq_true'] at hb
    have hd := done_not (hall e he hb.1)
    rcases hb.2 with h2 | h2
    · rw [h2, hi] at hd; cases hd
    · rw [h2.1] at hd; cases hd
theorem blkA_more {ops : Array Oper} {l : Array Bool} {i k : Nat} (hi : l.getD i true = false) (hk : k ∈ Region.ready .any ops l) : ∀ n j, blkA ops l i n j = true → blkA ops (l.setIfInBounds k true) i n j = true
  | 0, _, h => by cases h
  | n + 1, j, h => by
    unfold blkA at h ⊢
    split at h
    · rename_i o ho
      obtain ⟨e, he, hb⟩ := Array.any_eq_true'.1 h
      refine Array.any_eq_true'.2 ⟨e, he, ?_⟩
      simp only [Bool.and_eq_true, Bool.or_eq_true, beq_iff_eq, Bool.not_eq_true'] at hb ⊢
      refine ⟨hb.1, hb.2.imp (fun h => h) fun h2 => ⟨?_, blkA_more hi hk n e.on h2.2⟩⟩
      have hne : k ≠ e.on := fun hh => by
        have := blkA_ready hi hk n
        rw [hh, h2.2] at this
        cases this
      rw [getD_set_ne true hne]
      exact h2.1
    · cases h
theorem aAny_first {P : Program} {ops : Array Oper} {K : FS → Prop} {i : Nat} {oi : Oper} {x : AV} (hi : ops[i]? = some oi) :
    ∀ (fuel : Nat) (l : Array Bool) (s : FS),
      (∀ j oj, ops[j]? = some oj → j ≠ i → l.getD j true = false → (∀ n, blkA ops l i n j = false) → oi.apart ops oj = true ∧ (isLd oi.op = true → isMut oj.op = false)) →
      i ∈ Region.ready .any ops l → Yld P ops oi s x → aAny P ops K fuel (l.setIfInBounds i true) (s.put oi.dst x) → aAny P ops K (fuel + 1) l s := by
  have own : ∀ (s : FS) (K' : FS → Prop), Yld P ops oi s x → K' (s.put oi.dst x) → StepR P ops i s K' := fun s K' hy hk => by
    refine ⟨oi, hi, ?_⟩
    rcases hy with ⟨h, rfl⟩ | ⟨h1, h2⟩
    · exact .inl ⟨h, hk⟩
    · exact .inr ⟨h1, .inl ⟨x, h2, hk⟩⟩
  intro fuel
  induction fuel with
  | zero =>
    intro l s _ hr hy H
    refine ⟨fun h => (by rw [h] at hr; cases hr), fun j hj => ?_⟩
    by_cases hji : j = i
    · subst hji; exact own s _ hy H
    · have := ready_mono hj hji
      rw [H.1] at this
      cases this
  | succ fuel ih =>
    intro l s hfree hr hy H
    refine ⟨fun h => (by rw [h] at hr; cases hr), fun j hj => ?_⟩
    by_cases hji : j = i
    · subst hji; exact own s _ hy H
    · have h1 := H.2 j (ready_mono hj hji)
      obtain ⟨hjun, oj, hoj, hall⟩ := mem_ready.1 hj
      have hipe := (mem_ready.1 hr).1
      have hnot : ∀ n, blkA ops l i n j = false := blkA_ready hipe hj
      obtain ⟨hap, hm⟩ := hfree j oj hoj hji hjun hnot
      have hfree' : ∀ k ok, ops[k]? = some ok → k ≠ i → (l.setIfInBounds j true).getD k true = false →
          (∀ n, blkA ops (l.setIfInBounds j true) i n k = false) → oi.apart ops ok = true ∧ (isLd oi.op = true → isMut ok.op = false) := fun k ok hk hki hun hno => by
        refine hfree k ok hk hki ?_ (fun n => Bool.eq_false_iff.2 fun h => by have := blkA_more hipe hj n k h; rw [hno n] at this; cases this)
        by_cases hjk : j = k
        · subst hjk; exact hjun
        · rw [getD_set_ne true hjk] at hun; exact hun
      refine (step_put hoj hap hm hy h1).mono (fun s' h3 => ih (l.setIfInBounds j true) s' hfree' (ready_mono hr (Ne.symm hji)) h3.1 ?_)
      rw [Array.setIfInBounds_comm _ _ hji]
      exact h3.2
def SeqR (P : Program) (ops : Array Oper) (K : FS → Prop) : List Nat → FS → Prop
  | [], s => K s
  | i :: r, s => StepR P ops i s (SeqR P ops K r)
def freeA (P : Program) (ops : Array Oper) (l : Array Bool) (i : Nat) : Bool :=
  match ops[i]? with
  | none => false
  | some oi => isRd P oi.op && (List.range ops.size).all fun j => j == i || l.getD j true || match ops[j]? with
      | some oj => blkA ops l i ops.size j || (oi.apart ops oj && (!isLd oi.op || !isMut oj.op))
      | none => true
def okOrd (P : Program) (ops : Array Oper) : List Nat → Array Bool → Bool
  | [], l => (Region.ready .any ops l).isEmpty
  | i :: r, l => ((freeA P ops l i && (Region.ready .any ops l).contains i) || Region.ready .any ops l == [i]) && okOrd P ops r (l.setIfInBounds i true)
theorem okOrd_any {P : Program} {ops : Array Oper} {K : FS → Prop} : ∀ (r : List Nat) (l : Array Bool) (s : FS), okOrd P ops r l = true → SeqR P ops K r s → aAny P ops K r.length l s
  | [], l, s, h, hs => ⟨by simpa [okOrd] using h, hs⟩
  | i :: r, l, s, h, hs => by
    simp only [okOrd, Bool.and_eq_true, Bool.or_eq_true] at h
    obtain ⟨h1, h2⟩ := h
    rcases h1 with ⟨hf, hr⟩ | hr
    · unfold freeA at hf
      split at hf
      · cases hf
      · rename_i oi hi
        simp only [Bool.and_eq_true, List.all_eq_true, List.mem_range] at hf
        obtain ⟨hrd, hf⟩ := hf
        obtain ⟨o, ho, hst⟩ := hs
        obtain rfl : oi = o := Option.some.inj (hi.symm.trans ho)
        have hfree : ∀ j oj, ops[j]? = some oj → j ≠ i → l.getD j true = false → (∀ n, blkA ops l i n j = false) → oi.apart ops oj = true ∧ (isLd oi.op = true → isMut oj.op = false) := by
          intro j oj hj hne hun hno
          have h3 := hf j (Array.getElem?_eq_some_iff.1 hj).1
          simp only [hj, Bool.or_eq_true, beq_iff_eq, hne, false_or, hun, Bool.false_eq_true, Bool.and_eq_true, Bool.not_eq_true'] at h3
          rcases h3 with h3 | ⟨h3, h4⟩
          · rw [hno ops.size] at h3; cases h3
          · refine ⟨h3, fun hl => ?_⟩
            rcases h4 with h4 | h4
            · rw [hl] at h4; cases h4
            · exact h4
        have key : ∃ x, Yld P ops oi s x ∧ SeqR P ops K r (s.put oi.dst x) := by
          rcases hst with ⟨g, hk⟩ | ⟨g, ⟨x, hx, hk⟩ | ⟨g2, _⟩ | ⟨g2, _⟩⟩
          · exact ⟨.val undef, .inl ⟨g, rfl⟩, hk⟩
          · exact ⟨x, .inr ⟨g, hx⟩, hk⟩
          · rw [hrd] at g2; cases g2
          · rw [hrd] at g2; cases g2
        obtain ⟨x, hy, hk⟩ := key
        exact aAny_first hi r.length l s hfree (by simpa using hr) hy (okOrd_any r _ _ h2 hk)
    · have hr' : Region.ready .any ops l = [i] := by simpa using hr
      refine ⟨fun h => (by rw [h] at hr'; cases hr'), fun j hj => ?_⟩
      rw [hr'] at hj
      obtain rfl : j = i := by simpa using hj
      exact hs.mono fun s' h' => okOrd_any r _ s' h2 h'
end Copyhold

set_option linter.unusedVariables false
namespace Copyhold
open Go Go.RowKit
def AWp (c : Cx) (P : Program) (code : Code) (Q : Exit → FS → Prop) (s : FS) : Prop :=
  ∀ a w, Rel c s a w → code.wp P (fun e a' w' => ∃ s', Q e s' ∧ Rel c s' a' w') a w
section
variable {c : Cx} {P : Program} {Q Q' : Exit → FS → Prop} {s s' : FS}
theorem AWp.mono {code : Code} (h : AWp c P code Q s) (hq : ∀ e s, Q e s → Q' e s) : AWp c P code Q' s :=
  fun a w hr => wp_mono (h a w hr) fun e a' w' ⟨s', q, r⟩ => ⟨s', hq _ _ q, r⟩
def Sub (x y : AV) : Prop := ∀ (D : Nat → Prop) (w : World) (v : Value), Ra D w x v → Ra D w y v
theorem Sub.refl (x : AV) : Sub x x := fun _ _ _ h => h
theorem Sub.trans {x y z : AV} (h : Sub x y) (k : Sub y z) : Sub x z := fun _ _ _ hx => k _ _ _ (h _ _ _ hx)
theorem Sub.any (x : AV) : Sub x .any := fun _ _ v _ => .any v
theorem Sub.nil (k : Nat) (t : Bool) : Sub (.val (.slice none 0 0)) (.sl k t []) := fun D w v h => by
  cases h
  exact .sl k t [] none 0 0 0 (fun _ _ => undef) (Nat.le_refl _) (fun _ => rfl) (fun h => absurd h (by simp)) (fun i e h => by simp at h) (fun i e j x h => by simp at h) (fun i e j x h => by simp at h)
theorem Sub.loose (k : Nat) (t : Bool) (xs : List (List AV)) : Sub (.sl k t xs) (.sl k false xs) := fun D w v h => by
  cases h with
  | sl k t xs A c b off vs h1 h2 h3 h4 h5 h6 => exact .sl k false xs A c b off vs h1 (fun h => by cases h) h3 h4 h5 h6
theorem Sub.agg {cs ds : List AV} (hl : cs.length = ds.length) (h : ∀ (j : Nat) (x y : AV), cs[j]? = some x → ds[j]? = some y → Sub x y) : Sub (.agg cs) (.agg ds) := fun D w v hv => by
  cases hv with
  | agg cs vs h1 h2 h3 =>
    refine .agg ds vs (by omega) h2 (fun j y v hy hv => ?_)
    have hj : j < cs.length := by have := (List.getElem?_eq_some_iff.1 hy).1; omega
    exact h j cs[j] y (List.getElem?_eq_getElem hj) hy D w v (h3 j cs[j] v (List.getElem?_eq_getElem hj) hv)
inductive SubB : Bx → Bx → Prop
  | refl (y : Bx) : SubB y y
  | box (b : Nat) (T : TypeId) (cs ds : List AV) : cs.length = ds.length → (∀ (j : Nat) (x y : AV), cs[j]? = some x → ds[j]? = some y → Sub x y) → SubB (.box b T cs) (.box b T ds)
theorem SubB.blk {y y' : Bx} (h : SubB y y') : y'.blk = y.blk := by cases h <;> rfl
theorem SubB.rep {y y' : Bx} (h : SubB y y') {D : Nat → Prop} {w : World} (hy : BoxR D w y) : BoxR D w y' := by
  cases h with
  | refl => exact hy
  | box b T cs ds hl hsub =>
    obtain ⟨vs, h3, h4, h5, h6⟩ := hy
    refine ⟨vs, h3, by omega, h5, fun j a v ha hv => ?_⟩
    have hj : j < cs.length := by have := (List.getElem?_eq_some_iff.1 ha).1; omega
    exact hsub j cs[j] a (List.getElem?_eq_getElem hj) ha D w v (h6 j cs[j] v (List.getElem?_eq_getElem hj) hv)
def FS.le' (s s' : FS) : Prop := (∀ t, Sub (s.tm t) (s'.tm t)) ∧ ∀ id y', s'.bx id = some y' → ∃ y, s.bx id = some y ∧ SubB y y'
theorem RelD.weaken' {D : Nat → Prop} {a : Act} {w : World} (h : RelD c D s a w) (hl : s.le' s') : RelD c D s' a w := by
  refine ⟨h.defers, h.size, h.below, h.dlt, h.old, fun t v hv => hl.1 t D w v (h.tm t v hv), fun id y' hy' => ?_, fun i j x y hx hy hij => ?_⟩
  · obtain ⟨y, hy, e⟩ := hl.2 id y' hy'
    obtain ⟨h1, h2⟩ := h.bx id y hy
    exact ⟨fun g hg => h1 g (e.blk ▸ hg), e.rep h2⟩
  · obtain ⟨x', hx', e1⟩ := hl.2 i x hx
    obtain ⟨y', hy', e2⟩ := hl.2 j y hy
    rw [e1.blk, e2.blk]
    exact h.apart i j x' y' hx' hy' hij
theorem AWp.weaken {code : Code} (hl : s.le' s') (h : AWp c P code Q s') : AWp c P code Q s := fun a w ⟨hc, D, hr⟩ => h a w ⟨hc, D, hr.weaken' hl⟩
theorem awp_skip (h : Q .normal s) : AWp c P .skip Q s := fun a w hr => wp_skip ⟨s, h, hr⟩
theorem awp_label {l : Nat} (h : Q .normal s) : AWp c P (.label l) Q s := fun a w hr => wp_label ⟨s, h, hr⟩
theorem awp_exit {id : Nat} (h : Q (.exit id) s) : AWp c P (.exit id) Q s := fun a w hr => wp_exit ⟨s, h, hr⟩
theorem awp_ret (h : Q .ret s) : AWp c P .ret Q s := fun a w hr => wp_ret ⟨s, h, hr⟩
def thenQ (K : FS → Prop) (Q : Exit → FS → Prop) : Exit → FS → Prop
  | .normal, s => K s
  | e, s => Q e s
theorem awp_seq {x y : Code} (h : AWp c P x (thenQ (AWp c P y Q) Q) s) : AWp c P (.seq x y) Q s := fun a w hr =>
  wp_seq (wp_mono (h a w hr) fun e a' w' ⟨s', q, r⟩ => by
    cases e with
    | normal => exact q a' w' r
    | _ => exact ⟨s', q, r⟩)
theorem awp_cond {o : Operand} {x y : Code} {b : Bool} (hn : ∀ t, o = .tmp t → t < c.n) (ho : s.ev o = .val (.bool b)) (h : AWp c P (if b then x else y) Q s) : AWp c P (.cond o x y) Q s := fun a w hr => by
  obtain ⟨hc, D, hR⟩ := hr
  have hv := hR.ev o hn
  rw [ho] at hv
  generalize hvv : a.eval o = v at hv
  cases hv
  exact wp_cond hvv (h a w ⟨hc, D, hR⟩)
def blockQ (id : Nat) (Q : Exit → FS → Prop) : Exit → FS → Prop
  | .exit i, s => bif Nat.beq i id then Q .normal s else Q (.exit i) s
  | e, s => Q e s
theorem awp_block {id : Nat} {x : Code} (h : AWp c P x (blockQ id Q) s) : AWp c P (.block id x) Q s := fun a w hr =>
  wp_block (wp_mono (h a w hr) fun e a' w' ⟨s', q, r⟩ => by
    cases e with
    | exit i =>
      simp only [Exit.inBlock, blockQ] at q ⊢
      cases hb : Nat.beq i id with
      | true =>
        rw [hb] at q
        rw [if_pos (Nat.eq_of_beq_eq_true hb)]
        exact ⟨s', q, r⟩
      | false =>
        rw [hb] at q
        rw [if_neg (fun e => by rw [e, Nat.beq_refl] at hb; cases hb)]
        exact ⟨s', q, r⟩
    | _ => exact ⟨s', q, r⟩)
theorem least_of {J : Nat → Prop} (h : ∃ n, J n) : ∃ n, J n ∧ ∀ m, J m → n ≤ m := by
  obtain ⟨n, hn⟩ := h
  induction n using Nat.strongRecOn with
  | _ n ih =>
    by_cases hm : ∃ m, m < n ∧ J m
    · obtain ⟨m, h1, h2⟩ := hm
      exact ih m h1 h2
    · exact ⟨n, hn, fun m hJ => Nat.le_of_not_lt fun hlt => hm ⟨m, hlt, hJ⟩⟩
open Classical in
theorem awp_loop {x : Code} (I : Nat → FS → Prop) {n0 : Nat} (h0 : I n0 s) (round : ∀ n s, I n s → AWp c P x (thenQ (fun s' => ∃ m, m < n ∧ I m s') Q) s) : AWp c P (.loop x) Q s := fun a w hr => by
  let J : Act → World → Nat → Prop := fun a w n => ∃ s, I n s ∧ Rel c s a w
  let μ : Act → World → Nat := fun a w => if h : ∃ n, J a w n then choose (least_of h) else 0
  refine wp_loop (fun a w => ∃ n, J a w n) μ ⟨n0, s, h0, hr⟩ fun a w hJ => ?_
  have hμ : μ a w = choose (least_of hJ) := dif_pos hJ
  obtain ⟨s1, hI, hr1⟩ := (choose_spec (least_of hJ)).1
  refine wp_mono (round _ _ hI a w hr1) fun e a' w' ⟨s', q, r⟩ => ?_
  cases e with
  | normal =>
    obtain ⟨m, hm, hIm⟩ := q
    have hJ' : ∃ n, J a' w' n := ⟨m, s', hIm, r⟩
    refine ⟨hJ', ?_⟩
    rw [hμ]
    have : μ a' w' = choose (least_of hJ') := dif_pos hJ'
    rw [this]
    exact Nat.lt_of_le_of_lt ((choose_spec (least_of hJ')).2 m ⟨s', hIm, r⟩) hm
  | _ => exact ⟨s', q, r⟩
theorem Rel.drawn {a : Act} {w : World} (h : Rel c s a w) : Rel c s a { w with drawn := w.drawn + 1 } := by
  obtain ⟨hc, D, h⟩ := h
  have hk : ∀ b, D b → b < w.heap.size → ({ w with drawn := w.drawn + 1 } : World).heap[b]? = w.heap[b]? := fun _ _ _ => rfl
  refine ⟨hc, D, h.defers, h.size, ⟨h.below.os, h.below.tape, h.below.output, h.below.size, h.below.block⟩, h.dlt, h.old, fun t v hv => (h.tm t v hv).frame (fun _ h => h) (Nat.le_refl _) hk, fun id x hx => ?_, h.apart⟩
  obtain ⟨h1, h3⟩ := h.bx id x hx
  exact ⟨h1, h3.frame (fun _ h => h) (Nat.le_refl _) hk (fun _ _ => rfl)⟩
theorem awp_region_draw {id : Nat} {ops : Array Oper} (ord : List Nat) (hm : P.follows .mixedOrders = true) (hs : slotsOk c.n ops = true) (ho : (okOrd P ops ord (Array.replicate ops.size false) && ord.length == ops.size) = true)
    (h : SeqR P ops (Q .normal) ord s) : AWp c P (.region id ops true) Q s := fun a w hr => by
  simp only [Bool.and_eq_true, beq_iff_eq] at ho
  refine wp_region_any hm ?_
  have h1 := okOrd_any ord _ s ho.1 h
  rw [ho.2] at h1
  exact aAny_sound (K := Q .normal) hs (fun s a w hk hr => ⟨s, hk, hr⟩) _ _ s a _ h1 hr.drawn
theorem seqR_ops {ops : Array Oper} (hs : slotsOk c.n ops = true) : ∀ (l : List Nat) (s : FS) (a : Act) (w : World), SeqR P ops (Q .normal) l s → Rel c s a w → wpOps P ops (fun e a' w' => ∃ s', Q e s' ∧ Rel c s' a' w') l a w
  | [], s, a, w, h, hr => ⟨s, h, hr⟩
  | i :: r, s, a, w, h, hr => by
    rw [wpOps_cons]
    exact wpOp_mono (fun a' w' ⟨s', h', hr'⟩ => seqR_ops hs r s' a' w' h' hr') (StepR.sound hs h hr)
theorem awp_region {id : Nat} {ops : Array Oper} (ord : List Nat) (hs : slotsOk c.n ops = true) (ho : (List.range ops.size == ord) = true) (h : SeqR P ops (Q .normal) ord s) : AWp c P (.region id ops false) Q s := fun a w hr => by
  refine wp_region ?_
  rw [beq_iff_eq.1 ho]
  exact seqR_ops hs ord s a w h hr
end
def RaAll (D : Nat → Prop) (w : World) (xs : List AV) (vs : Array Value) : Prop := xs.length = vs.size ∧ ∀ (j : Nat) (x : AV) (v : Value), xs[j]? = some x → vs[j]? = some v → Ra D w x v
def FSpec (P : Program) (f : FuncId) (args : List AV) (r : AV) : Prop :=
  ∀ (D : Nat → Prop) (w : World) (vs : Array Value), (∀ b, D b → b < w.heap.size) → RaAll D w args vs →
    Calls P f vs w (fun e w' => ∃ v, ∃ D' : Nat → Prop, e = .returned v ∧ Below w.heap.size w w' ∧ (∀ b, D b → D' b) ∧ (∀ b, D' b → b < w'.heap.size ∧ (D b ∨ w.heap.size ≤ b)) ∧ Ra D' w' r v)
theorem FSpec.sub {P : Program} {f : FuncId} {args args' : List AV} {r r' : AV} (h : FSpec P f args r) (hl : args'.length = args.length) (ha : ∀ (j : Nat) (x y : AV), args'[j]? = some x → args[j]? = some y → Sub x y) (hr : Sub r r') : FSpec P f args' r' := by
  intro D w vs hD hv
  refine (h D w vs hD ⟨by have := hv.1; omega, fun j y v hy hvj => ?_⟩).mono ?_
  · have hj : j < args'.length := by have := (List.getElem?_eq_some_iff.1 hy).1; omega
    exact ha j args'[j] y (List.getElem?_eq_getElem hj) hy D w v (hv.2 j args'[j] v (List.getElem?_eq_getElem hj) hvj)
  · rintro e w' ⟨v, D', rfl, h1, h2, h3, h4⟩
    exact ⟨v, D', rfl, h1, h2, h3, hr _ _ _ h4⟩
def allP : List Prop → Prop
  | [] => True
  | p :: r => p ∧ allP r
theorem allP_append {a b : List Prop} (h : allP (a ++ b)) : allP a ∧ allP b := by
  induction a with
  | nil => exact ⟨trivial, h⟩
  | cons p r ih => exact ⟨⟨h.1, (ih h.2).1⟩, (ih h.2).2⟩
def resCells (P : Program) (s : FS) : ResultVar → Option (List Prop × AV)
  | .tmp t => some ([], s.tm t)
  | .cell t ty =>
    match s.tm t, P.underlying ty, P.info? ty with
    | .ptr id b 0, some (.struct _), some i =>
      match s.bx id with
      | some (.box b' _ cs) => bif Nat.beq cs.length i.size then some ([b' = b], .agg cs) else none
      | _ => none
    | .ptr id b 0, some (.array _ _), some i =>
      match s.bx id with
      | some (.box b' _ cs) => bif Nat.beq cs.length i.size then some ([b' = b], .agg cs) else none
      | _ => none
    | .ptr id b 0, some _, some _ =>
      match s.bx id with
      | some (.box b' _ cs) =>
        match cs with
        | x :: _ => some ([b' = b], x)
        | [] => none
      | _ => none
    | _, _, _ => none
def resRun (tmps : Array Value) : ResultVar → Sem Value
  | .tmp t => pure (tmps.getD t undef)
  | .cell t ty => do loadVar ty (← asAddr (tmps.getD t undef))
theorem run_resVar {c : Cx} {D : Nat → Prop} {P : Program} {s : FS} {a : Act} {w : World} (h : RelD c D s a w) (rv : ResultVar) (x : AV) (hn : (match rv with | .tmp t => t | .cell t _ => t) < c.n) {ps : List Prop} (hx : resCells P s rv = some (ps, x)) (hp : allP ps) :
    ∃ v, (resRun a.tmps rv).run P w = .ok v w ∧ Ra D w x v := by
  cases rv with
  | tmp t =>
    simp only [resCells, Option.some.injEq, Prod.mk.injEq] at hx
    obtain ⟨rfl, rfl⟩ := hx
    exact ⟨_, rfl, h.ev (.tmp t) (fun t' e => by cases e; exact hn)⟩
  | cell t ty =>
    have hv := h.ev (.tmp t) (fun t' e => by cases e; exact hn)
    simp only [resCells] at hx
    have key : ∀ (id b : Nat) (d : TypeDesc) (i : TypeInfo), s.tm t = .ptr id b 0 → P.underlying ty = some d → P.info? ty = some i →
        a.tmps.getD t undef = .pointer (some ⟨b, 0, none⟩) := fun id b d i h1 h2 h3 => by
      simp only [FS.ev, h1] at hv
      generalize hvv : a.eval (.tmp t) = v at hv
      cases hv
      exact hvv
    have agg : ∀ (id b : Nat) (i : TypeInfo) (b' : Nat) (T : TypeId) (cs : List AV), s.tm t = .ptr id b 0 → P.info? ty = some i → s.bx id = some (.box b' T cs) → b' = b → cs.length = i.size → (isAgg ty).run P w = .ok true w → a.tmps.getD t undef = .pointer (some ⟨b, 0, none⟩) →
        ∃ v, (resRun a.tmps (.cell t ty)).run P w = .ok v w ∧ Ra D w (.agg cs) v := fun id b i b' T cs h1 h2 h3 h4 h5 h6 h7 => by
      obtain ⟨_, vs, g1, g2, g3, g4⟩ := h.bx id _ h3
      subst h4
      have hl := run_loadCells_list (P := P) (w := w) ⟨b', 0, none⟩ vs.toList (fun j v hv => by
        rw [add_plain', Nat.zero_add, g1.cell]
        simpa using hv)
      have hlen : vs.toList.length = i.size := by simp [g2, h5]
      rw [hlen] at hl
      refine ⟨.agg vs, ?_, .agg _ vs g2.symm g3 g4⟩
      simp [resRun, h7, asAddr, loadVar, h6, Go.sizeOf, typeInfo, h2, hl]
    split at hx
    · rename_i id b fs i h1 h2 h3
      split at hx
      · rename_i b' T cs hy
        cases hb : Nat.beq cs.length i.size with
        | false => rw [hb] at hx; cases hx
        | true =>
          rw [hb] at hx
          simp only [cond_true, Option.some.injEq, Prod.mk.injEq] at hx
          obtain ⟨rfl, rfl⟩ := hx
          exact agg id b i _ _ _ h1 h3 hy hp.1 (Nat.eq_of_beq_eq_true hb) (by simp [isAgg, run_underlying h2]) (key id b _ i h1 h2 h3)
      · cases hx
    · rename_i id b n e i h1 h2 h3
      split at hx
      · rename_i b' T cs hy
        cases hb : Nat.beq cs.length i.size with
        | false => rw [hb] at hx; cases hx
        | true =>
          rw [hb] at hx
          simp only [cond_true, Option.some.injEq, Prod.mk.injEq] at hx
          obtain ⟨rfl, rfl⟩ := hx
          exact agg id b i _ _ _ h1 h3 hy hp.1 (Nat.eq_of_beq_eq_true hb) (by simp [isAgg, run_underlying h2]) (key id b _ i h1 h2 h3)
      · cases hx
    · rename_i id b d i hns hna h1 h2 h3
      have hk := key id b d i h1 h2 h3
      split at hx
      · rename_i b' T cs hy
        split at hx
        · rename_i x0 cs
          simp only [Option.some.injEq, Prod.mk.injEq] at hx
          obtain ⟨rfl, rfl⟩ := hx
          have hc : b' = b := hp.1
          subst hc
          obtain ⟨_, vs, g1, g2, g3, g4⟩ := h.bx id _ hy
          have hlt : 0 < vs.size := by rw [g2]; simp
          have hcell : w.cell? ⟨b', 0, none⟩ = some vs[0] := by rw [g1.cell]; simp [hlt]
          have hagg : (isAgg ty).run P w = .ok false w := by
            have : ∀ d, P.underlying ty = some d → (isAgg ty).run P w = .ok (match d with | .struct _ => true | .array _ _ => true | _ => false) w := fun d hd => by
              simp [isAgg, run_underlying hd]
              cases d <;> simp
            rw [this d h2]
            cases d <;> first | rfl | (exact (hns _ rfl).elim) | (exact (hna _ rfl).elim) | (exact (hns _ _ rfl).elim) | (exact (hna _ _ rfl).elim)
          exact ⟨vs[0], by simp [resRun, hk, asAddr, loadVar, hagg, hcell], g4 0 _ vs[0] rfl (by simp [hlt])⟩
        · cases hx
      · cases hx
    · cases hx
def resOf : List AV → AV
  | [x] => x
  | xs => .tup xs
def resAll (P : Program) (s : FS) : List ResultVar → Option (List Prop × List AV)
  | [] => some ([], [])
  | rv :: r =>
    match resCells P s rv, resAll P s r with
    | some (ps, x), some (qs, xs) => some (ps ++ qs, x :: xs)
    | _, _ => none
def DoneR (P : Program) (F : Func) (r : AV) (s : FS) : Prop := ∃ ps xs, resAll P s F.results.toList = some (ps, xs) ∧ allP ps ∧ Sub (resOf xs) r
theorem run_resVars {c : Cx} {D : Nat → Prop} {P : Program} {s : FS} {a : Act} {w : World} (h : RelD c D s a w) : ∀ (rs : List ResultVar) (xs : List AV), (∀ rv ∈ rs, (match rv with | .tmp t => t | .cell t _ => t) < c.n) → (∃ ps, resAll P s rs = some (ps, xs) ∧ allP ps) →
    ∃ vs : List Value, (rs.mapM (resRun a.tmps)).run P w = .ok vs w ∧ xs.length = vs.length ∧ ∀ (j : Nat) (x : AV) (v : Value), xs[j]? = some x → vs[j]? = some v → Ra D w x v
  | [], xs, hn, hx => by
    obtain ⟨ps, hx, _⟩ := hx
    simp only [resAll, Option.some.injEq, Prod.mk.injEq] at hx
    obtain ⟨rfl, rfl⟩ := hx
    exact ⟨[], by simp, rfl, fun j x v h => by simp at h⟩
  | rv :: rs, xs, hn, hx => by
    obtain ⟨ps, hx, hp⟩ := hx
    simp only [resAll] at hx
    split at hx
    · rename_i ps1 x qs ys hr hrs
      simp only [Option.some.injEq, Prod.mk.injEq] at hx
      obtain ⟨rfl, rfl⟩ := hx
      obtain ⟨p1, p2⟩ := allP_append hp
      · skip
        obtain ⟨v, h1, h2⟩ := run_resVar h rv x (hn rv (by simp)) hr p1
        obtain ⟨vs, h3, h4, h5⟩ := run_resVars h rs ys (fun r hr => hn r (by simp [hr])) ⟨_, hrs, p2⟩
        refine ⟨v :: vs, ?_, by simp [h4], fun j y u hy hu => ?_⟩
        · rw [List.mapM_cons]
          simp only [Sem.run_bind, h1, Result.andThen_ok, h3]
          rfl
        · cases j with
          | zero =>
            simp at hy hu
            subst hy hu
            exact h2
          | succ j => exact h5 j y u (by simpa using hy) (by simpa using hu)
    · cases hx
theorem run_results {c : Cx} {D : Nat → Prop} {P : Program} {F : Func} {s : FS} {a : Act} {w : World} {r : AV} (h : RelD c D s a w) (hn : ∀ rv ∈ F.results.toList, (match rv with | .tmp t => t | .cell t _ => t) < c.n) (hd : DoneR P F r s) :
    ∃ v, (results F a.tmps).run P w = .ok v w ∧ Ra D w r v := by
  obtain ⟨ps, xs, hx, hp, hsub⟩ := hd
  obtain ⟨vs, h1, h2, h3⟩ := run_resVars h _ _ hn ⟨_, hx, hp⟩
  have hrun : (results F a.tmps).run P w = .ok (if h : vs.toArray.size = 1 then vs.toArray[0] else .tuple vs.toArray) w := by
    have e : results F a.tmps = (do
      let vs ← F.results.mapM (resRun a.tmps)
      pure (if h : vs.size = 1 then vs[0] else .tuple vs)) := rfl
    rw [e, Array.mapM_eq_mapM_toList]
    simp only [Sem.run_bind, map_eq_pure_bind]
    rw [h1]
    rfl
  refine ⟨_, hrun, hsub _ _ _ ?_⟩
  match xs, vs, h2, h3 with
  | [x], [v], _, h3 => exact h3 0 x v rfl rfl
  | [], [], _, _ => exact .tup [] _ rfl (fun j x v h => by simp at h)
  | x :: y :: xs, v :: u :: vs, h2, h3 =>
    rw [dif_neg (by simp)]
    exact .tup _ _ (by simpa using h2) (fun j x v hx hv => h3 j x v hx (by simpa using hv))
theorem spec_of {P : Program} {f : FuncId} {F : Func} {code : Code} {args : List AV} {r : AV} (hf : P.funcs[f]? = some F) (hb : F.body = some code) (hsz : args.length ≤ F.ntmps)
    (hn : (F.results.toList.all fun rv => decide ((match rv with | .tmp t => t | .cell t _ => t) < F.ntmps)) = true)
    (h : ∀ c : Cx, c.n = F.ntmps → AWp c P code (fun e s => (e = .normal ∨ e = .ret) ∧ DoneR P F r s) ⟨fun t => args.getD t .any, fun _ => none⟩) : FSpec P f args r := by
  intro D w vs hD hvs
  refine calls_of_wp hf hb ?_
  let c : Cx := ⟨w.heap.size, w, F.ntmps, D⟩
  have hrel : Rel c ⟨fun t => args.getD t .any, fun _ => none⟩ { tmps := vs ++ Array.replicate (F.ntmps - vs.size) undef, defers := [] } w := by
    refine ⟨Nat.le_refl _, D, rfl, ?_, Below.refl _ _, hD, ⟨fun _ h => h, fun _ h => .inl h⟩, fun t v hv => ?_, fun id x h => (by cases h), fun i j x y h => (by cases h)⟩
    · have := hvs.1
      simp [c]
      omega
    · by_cases ht : t < vs.size
      · rw [Array.getElem?_append_left ht] at hv
        have hta : t < args.length := by rw [hvs.1]; exact ht
        have := hvs.2 t args[t] v (List.getElem?_eq_getElem hta) hv
        simpa [List.getD, List.getElem?_eq_getElem hta] using this
      · have hta : args.length ≤ t := by rw [hvs.1]; omega
        have : args.getD t .any = .any := by simp [List.getD, List.getElem?_eq_none hta]
        simp only [this]
        exact .any v
  refine wp_mono (h c rfl _ _ hrel) fun e a' w' ⟨s', hq, hc, D', hR⟩ => ?_
  obtain ⟨he, hd⟩ := hq
  have hn' : ∀ rv ∈ F.results.toList, (match rv with | .tmp t => t | .cell t _ => t) < c.n := fun rv hrv => by
    have := List.all_eq_true.1 hn rv hrv
    simpa using this
  obtain ⟨v, hv, hrv⟩ := run_results hR hn' hd
  have key : ∃ v, ∃ D'' : Nat → Prop, Ending.returned v = .returned v ∧ True := ⟨v, D', rfl, trivial⟩
  have fin : (∃ u, ∃ D'' : Nat → Prop, Ending.returned v = .returned u ∧ Below w.heap.size w w' ∧ (∀ b, D b → D'' b) ∧ (∀ b, D'' b → b < w'.heap.size ∧ (D b ∨ w.heap.size ≤ b)) ∧ Ra D'' w' r u) :=
    ⟨v, D', rfl, hR.below, hR.old.1, fun b hb => ⟨hR.dlt b hb, hR.old.2 b hb⟩, hrv⟩
  rcases he with rfl | rfl
  · exact ⟨hR.defers, v, hv, fin⟩
  · exact ⟨hR.defers, v, hv, fin⟩
end Copyhold

set_option linter.unusedVariables false
namespace Copyhold
open Go Go.RowKit
structure LS where
  tm : List (Nat × AV)
  bx : List (Nat × Bx)
def lget : List (Nat × AV) → Nat → AV
  | [], _ => .any
  | (k, x) :: r, t => bif Nat.beq k t then x else lget r t
def bget : List (Nat × Bx) → Nat → Option Bx
  | [], _ => none
  | (k, x) :: r, t => bif Nat.beq k t then some x else bget r t
def lput : List (Nat × AV) → Nat → AV → List (Nat × AV)
  | [], t, x => [(t, x)]
  | (k, y) :: r, t, x => bif Nat.beq k t then (k, x) :: r else (k, y) :: lput r t x
def bput : List (Nat × Bx) → Nat → Bx → List (Nat × Bx)
  | [], t, x => [(t, x)]
  | (k, y) :: r, t, x => bif Nat.beq k t then (k, x) :: r else (k, y) :: bput r t x
def LS.fs (s : LS) : FS := ⟨lget s.tm, bget s.bx⟩
def LS.put (s : LS) (d : Option Tmp) (x : AV) : LS :=
  match d with
  | some d => { s with tm := lput s.tm d x }
  | none => s
def LS.setB (s : LS) (id : Nat) (y : Bx) : LS := { s with bx := bput s.bx id y }
def LS.ev (s : LS) : Operand → AV
  | .tmp t => lget s.tm t
  | .const v => .val v
  | .global g => .val (.pointer (some ⟨g, 0, none⟩))
  | .func f => .val (.func (.func f) #[] #[])
theorem nbeq {a b : Nat} (h : a ≠ b) : Nat.beq a b = false := by
  cases hb : Nat.beq a b
  · rfl
  · exact absurd (Nat.eq_of_beq_eq_true hb) h
theorem LS.fs_ev (s : LS) (y : Operand) : s.fs.ev y = s.ev y := by cases y <;> rfl
theorem lget_lput (l : List (Nat × AV)) (t : Nat) (x : AV) (u : Nat) : lget (lput l t x) u = if u = t then x else lget l u := by
  induction l with
  | nil =>
    simp only [lput, lget]
    by_cases h : u = t
    · simp [h]
    · have : Nat.beq t u = false := nbeq fun e => h e.symm
      simp [h, this]
  | cons p r ih =>
    obtain ⟨k, y⟩ := p
    simp only [lput]
    by_cases hk : k = t
    · subst hk
      simp only [Nat.beq_refl, cond_true, lget]
      by_cases h : u = k
      · simp [h]
      · have : Nat.beq k u = false := nbeq fun e => h e.symm
        simp [h, this]
    · have : Nat.beq k t = false := nbeq hk
      simp only [this, cond_false, lget, ih]
      by_cases hu : k = u
      · subst hu
        simp [hk]
      · have : Nat.beq k u = false := nbeq hu
        simp [this]
theorem bget_bput (l : List (Nat × Bx)) (t : Nat) (x : Bx) (u : Nat) : bget (bput l t x) u = if u = t then some x else bget l u := by
  induction l with
  | nil =>
    simp only [bput, bget]
    by_cases h : u = t
    · simp [h]
    · have : Nat.beq t u = false := nbeq fun e => h e.symm
      simp [h, this]
  | cons p r ih =>
    obtain ⟨k, y⟩ := p
    simp only [bput]
    by_cases hk : k = t
    · subst hk
      simp only [Nat.beq_refl, cond_true, bget]
      by_cases h : u = k
      · simp [h]
      · have : Nat.beq k u = false := nbeq fun e => h e.symm
        simp [h, this]
    · have : Nat.beq k t = false := nbeq hk
      simp only [this, cond_false, bget, ih]
      by_cases hu : k = u
      · subst hu
        simp [hk]
      · have : Nat.beq k u = false := nbeq hu
        simp [this]
theorem LS.fs_put (s : LS) (d : Option Tmp) (x : AV) : s.fs.put d x = (s.put d x).fs := by
  cases d with
  | none => rfl
  | some d =>
    simp only [LS.fs, FS.put, LS.put, FS.mk.injEq, and_true]
    funext t
    rw [lget_lput]
theorem LS.fs_setB (s : LS) (id : Nat) (y : Bx) : s.fs.setB id (some y) = (s.setB id y).fs := by
  simp only [LS.fs, FS.setB, LS.setB, FS.mk.injEq, true_and]
  funext t
  rw [bget_bput]
def isAggP (P : Program) (t : TypeId) : Option Bool :=
  match P.underlying t with
  | some (.struct _) | some (.array _ _) => some true
  | some _ => some false
  | none => none
def szP (P : Program) (t : TypeId) : Option Nat :=
  match P.info? t with
  | some i => some i.size
  | none => none
def fldP (P : Program) (st : TypeId) (f : Nat) : Option (Nat × TypeId) :=
  match P.underlying st with
  | some (.struct fs) =>
    match fs[f]? with
    | some fd =>
      match szP P fd.type with
      | some (_ + 1) => some (fd.offset, fd.type)
      | _ => none
    | none => none
  | _ => none
def elemP (P : Program) (t : TypeId) : Option TypeId :=
  match P.underlying t with
  | some (.slice e) => some e
  | _ => none
theorem isAggP_run {P : Program} {t : TypeId} {b : Bool} (h : isAggP P t = some b) (w : World) : (isAgg t).run P w = .ok b w := by
  unfold isAggP at h
  split at h
  · rename_i fs hu
    obtain rfl := Option.some.inj h
    simp [isAgg, run_underlying hu]
  · rename_i n e hu
    obtain rfl := Option.some.inj h
    simp [isAgg, run_underlying hu]
  · rename_i d hns hna hu
    obtain rfl := Option.some.inj h
    simp only [isAgg, Sem.run_bind, run_underlying hu, Result.andThen_ok]
    cases d <;> first | rfl | (exact (hns _ rfl).elim) | (exact (hna _ rfl).elim) | (exact (hns _ _ rfl).elim) | (exact (hna _ _ rfl).elim)
  · cases h
theorem szP_run {P : Program} {t : TypeId} {n : Nat} (h : szP P t = some n) (w : World) : (Go.sizeOf t).run P w = .ok n w := by
  unfold szP at h
  split at h
  · rename_i i hi
    obtain rfl := Option.some.inj h
    simp [Go.sizeOf, typeInfo, hi]
  · cases h
def cellsA : AV → Option (List AV)
  | .agg cs => some cs
  | .val (.agg vs) => bif vs.toList.all (·.oneCell') then some (vs.toList.map .val) else none
  | .val v => bif v.oneCell' then some [.val v] else none
  | .any | .tup _ => none
  | x => some [x]
theorem cellsA_ok {D : Nat → Prop} {w : World} {x : AV} {cs : List AV} {v : Value} (h : cellsA x = some cs) (hv : Ra D w x v) :
    v.cells.size = cs.length ∧ (∀ (j : Nat) (u : Value), v.cells[j]? = some u → u.oneCell' = true) ∧ ∀ (j : Nat) (a : AV) (u : Value), cs[j]? = some a → v.cells[j]? = some u → Ra D w a u := by
  have one : ∀ (u : Value) (a : AV), u.oneCell' = true → u.cells = #[u] → Ra D w a u → u.cells.size = [a].length ∧ (∀ (j : Nat) (z : Value), u.cells[j]? = some z → z.oneCell' = true) ∧ ∀ (j : Nat) (b : AV) (z : Value), [a][j]? = some b → u.cells[j]? = some z → Ra D w b z := by
    intro u a h1 h2 h3
    rw [h2]
    refine ⟨rfl, fun j z hz => ?_, fun j b z hb hz => ?_⟩
    · cases j with
      | zero => simp at hz; subst hz; exact h1
      | succ j => simp at hz
    · cases j with
      | zero => simp at hz hb; subst hz hb; exact h3
      | succ j => simp at hz
  cases hv with
  | agg cs' vs h1 h2 h3 =>
    simp only [cellsA, Option.some.injEq] at h
    subst h
    exact ⟨h1.symm, h2, h3⟩
  | val v =>
    cases v with
    | agg vs =>
      simp only [cellsA] at h
      cases ha : vs.toList.all (·.oneCell') with
      | false => rw [ha] at h; cases h
      | true =>
        rw [ha] at h
        obtain rfl := Option.some.inj h
        refine ⟨by simp [Value.cells], fun j u hu => ?_, fun j a u ha hu => ?_⟩
        · exact List.all_eq_true.1 ha u (by have := Array.mem_of_getElem? hu; simpa [Value.cells] using this)
        · simp only [List.getElem?_map, Array.getElem?_toList] at ha
          simp only [Value.cells] at hu
          rw [hu] at ha
          obtain rfl := Option.some.inj ha
          exact .val u
    | tuple vs => simp [cellsA, Value.oneCell'] at h
    | _ =>
      simp only [cellsA, Value.oneCell', cond_true, Option.some.injEq] at h
      subst h
      exact one _ _ rfl rfl (.val _)
  | any v => cases h
  | tup l vs h1 h2 => cases h
  | sl k t xs A c b off vs h1 h2 h3 h4 h5 h6 =>
    simp only [cellsA, Option.some.injEq] at h
    subst h
    exact one _ _ rfl rfl (.sl k t xs A c b off vs h1 h2 h3 h4 h5 h6)
  | dptr cs' b off vs h1 h2 h3 h4 =>
    simp only [cellsA, Option.some.injEq] at h
    subst h
    exact one _ _ rfl rfl (.dptr cs' b off vs h1 h2 h3 h4)
  | ptr id b off =>
    simp only [cellsA, Option.some.injEq] at h
    subst h
    exact one _ _ rfl rfl (.ptr id b off)
  | rw id n c A =>
    simp only [cellsA, Option.some.injEq] at h
    subst h
    exact one _ _ rfl rfl (.rw id n c A)
  | clo f caps vs h1 h2 =>
    simp only [cellsA, Option.some.injEq] at h
    subst h
    exact one _ _ rfl rfl (.clo f caps vs h1 h2)
  | mp es r es' clock h1 h2 h3 h4 h5 h6 =>
    simp only [cellsA, Option.some.injEq] at h
    subst h
    exact one _ _ rfl rfl (.mp es r es' clock h1 h2 h3 h4 h5 h6)
  | mref id r =>
    simp only [cellsA, Option.some.injEq] at h
    subst h
    exact one _ _ rfl rfl (.mref id r)
  | ep id b n cap k i off =>
    simp only [cellsA, Option.some.injEq] at h
    subst h
    exact one _ _ rfl rfl (.ep id b n cap k i off)
  | pre k xs i A c h1 h2 =>
    simp only [cellsA, Option.some.injEq] at h
    subst h
    exact one _ _ rfl rfl (.pre k xs i A c h1 h2)
  | rs id b n cap k lo h1 =>
    simp only [cellsA, Option.some.injEq] at h
    subst h
    exact one _ _ rfl rfl (.rs id b n cap k lo h1)
def partA (P : Program) (t : TypeId) (cs : List AV) : Option AV :=
  match isAggP P t with
  | some true =>
    match szP P t with
    | some n => bif Nat.ble n cs.length then some (.agg (cs.take n)) else none
    | none => none
  | some false => cs.head?
  | none => none
def CellsAt (D : Nat → Prop) (w : World) (b off : Nat) (cs : List AV) : Prop := ∀ (j : Nat) (x : AV), cs[j]? = some x → ∃ v, w.cell? ⟨b, off + j, none⟩ = some v ∧ v.oneCell' = true ∧ Ra D w x v
theorem CellsAt.drop {D : Nat → Prop} {w : World} {b off : Nat} {cs : List AV} (h : CellsAt D w b off cs) (k : Nat) : CellsAt D w b (off + k) (cs.drop k) := fun j x hx => by
  rw [List.getElem?_drop] at hx
  obtain ⟨v, h1, h2, h3⟩ := h (k + j) x hx
  exact ⟨v, by rw [Nat.add_assoc]; exact h1, h2, h3⟩
theorem CellsAt.values {D : Nat → Prop} {w : World} {b off : Nat} : ∀ {cs : List AV}, CellsAt D w b off cs → ∃ vs : List Value, vs.length = cs.length ∧ (∀ (j : Nat) (v : Value), vs[j]? = some v → w.cell? ⟨b, off + j, none⟩ = some v ∧ v.oneCell' = true) ∧ ∀ (j : Nat) (x : AV) (v : Value), cs[j]? = some x → vs[j]? = some v → Ra D w x v
  | [], _ => ⟨[], rfl, fun j v h => by simp at h, fun j x v h => by simp at h⟩
  | x :: cs, h => by
    obtain ⟨v, h1, h2, h3⟩ := h 0 x rfl
    obtain ⟨vs, g1, g2, g3⟩ := CellsAt.values (cs := cs) (off := off + 1) (fun j y hy => by
      obtain ⟨u, a1, a2, a3⟩ := h (j + 1) y (by simpa using hy)
      exact ⟨u, by rw [show off + 1 + j = off + (j + 1) from by omega]; exact a1, a2, a3⟩)
    refine ⟨v :: vs, by simp [g1], fun j u hu => ?_, fun j y u hy hu => ?_⟩
    · cases j with
      | zero => simp at hu; subst hu; exact ⟨h1, h2⟩
      | succ j =>
        have := g2 j u (by simpa using hu)
        rw [show off + 1 + j = off + (j + 1) from by omega] at this
        exact this
    · cases j with
      | zero => simp at hu hy; subst hu hy; exact h3
      | succ j => exact g3 j y u (by simpa using hy) (by simpa using hu)
theorem load_part {D : Nat → Prop} {P : Program} {w : World} {t : TypeId} {b off : Nat} {cs : List AV} {x : AV} (h : CellsAt D w b off cs) (hx : partA P t cs = some x) : ∃ v, (loadVar t ⟨b, off, none⟩).run P w = .ok v w ∧ Ra D w x v := by
  unfold partA at hx
  split at hx
  · rename_i ha
    split at hx
    · rename_i n hn
      cases hb : Nat.ble n cs.length with
      | false => rw [hb] at hx; cases hx
      | true =>
        rw [hb] at hx
        obtain rfl := Option.some.inj hx
        have hle := Nat.le_of_ble_eq_true hb
        obtain ⟨vs, h1, h2, h3⟩ := h.values
        have hl := run_loadCells_list (P := P) (w := w) ⟨b, off, none⟩ (vs.take n) (fun j v hv => by
          rw [add_plain']
          rw [List.getElem?_take] at hv
          split at hv
          · exact (h2 j v hv).1
          · cases hv)
        have hlen : (vs.take n).length = n := by rw [List.length_take]; omega
        rw [hlen] at hl
        refine ⟨.agg (vs.take n).toArray, ?_, .agg _ _ (by simp; omega) (fun j v hv => ?_) (fun j x v hx hv => ?_)⟩
        · simp [loadVar, isAggP_run ha, szP_run hn, hl]
        · rw [List.getElem?_toArray, List.getElem?_take] at hv
          split at hv
          · exact (h2 j v hv).2
          · cases hv
        · rw [List.getElem?_toArray, List.getElem?_take] at hv
          rw [List.getElem?_take] at hx
          split at hv
          · rename_i hj
            rw [if_pos hj] at hx
            exact h3 j x v hx hv
          · cases hv
    · cases hx
  · rename_i ha
    rw [List.head?_eq_getElem?] at hx
    obtain ⟨v, h1, h2, h3⟩ := h 0 x hx
    exact ⟨v, by simpa [loadVar, isAggP_run ha] using (show (load ⟨b, off, none⟩).run P w = .ok v w from by
      rw [Nat.add_zero] at h1
      simp [h1]), h3⟩
  · cases hx
theorem BoxR.cells {D : Nat → Prop} {w : World} {b : Nat} {T : TypeId} {cs : List AV} (h : BoxR D w (.box b T cs)) : CellsAt D w b 0 cs := fun j x hx => by
  obtain ⟨vs, h1, h2, h3, h4⟩ := h
  have hj : j < vs.size := by have := (List.getElem?_eq_some_iff.1 hx).1; omega
  exact ⟨vs[j], by rw [Nat.zero_add, h1.cell]; simp [hj], h3 j vs[j] (by simp [hj]), h4 j x vs[j] hx (by simp [hj])⟩
def rng : IntKind → Int → Prop
  | .i64, n => -9223372036854775808 ≤ n ∧ n ≤ 9223372036854775807
  | .u64, n => 0 ≤ n ∧ n ≤ 18446744073709551615
  | .i32, n => -2147483648 ≤ n ∧ n ≤ 2147483647
  | .u32, n => 0 ≤ n ∧ n ≤ 4294967295
  | .i16, n => -32768 ≤ n ∧ n ≤ 32767
  | .u16, n => 0 ≤ n ∧ n ≤ 65535
  | .i8, n => -128 ≤ n ∧ n ≤ 127
  | .u8, n => 0 ≤ n ∧ n ≤ 255
theorem rng_wrap {k : IntKind} {n : Int} (h : rng k n) : k.wrap n = n := by
  cases k <;> simp only [rng] at h <;> simp only [IntKind.wrap, IntKind.bits, IntKind.signed, Bool.false_and, Bool.true_and, decide_eq_true_eq, ge_iff_le, Bool.false_eq_true, if_false] <;> (try split) <;> omega
def binA (P : Program) (op : BinOp) (t : TypeId) (x y : AV) : Option (List Prop × AV) :=
  match op, x, y with
  | .add, .val (.int .i64 a), .val (.int .i64 b) => some ([rng .i64 (a + b)], .val (.int .i64 (a + b)))
  | .sub, .val (.int .i64 a), .val (.int .i64 b) => some ([rng .i64 (a - b)], .val (.int .i64 (a - b)))
  | .mul, .val (.int .i64 a), .val (.int .i64 b) => some ([rng .i64 (a * b)], .val (.int .i64 (a * b)))
  | .eql, .val (.int .i64 a), .val (.int .i64 b) => some ([], .val (.bool (a == b)))
  | .neq, .val (.int .i64 a), .val (.int .i64 b) => some ([], .val (.bool (a != b)))
  | .lss, .val (.int .i64 a), .val (.int .i64 b) => some ([], .val (.bool (decide (a < b))))
  | .leq, .val (.int .i64 a), .val (.int .i64 b) => some ([], .val (.bool (decide (a ≤ b))))
  | .gtr, .val (.int .i64 a), .val (.int .i64 b) => some ([], .val (.bool (decide (a > b))))
  | .geq, .val (.int .i64 a), .val (.int .i64 b) => some ([], .val (.bool (decide (a ≥ b))))
  | .eql, .val (.string ⟨⟨a⟩⟩), .val (.string ⟨⟨b⟩⟩) => some ([], .val (.bool (a == b)))
  | .neq, .val (.string ⟨⟨a⟩⟩), .val (.string ⟨⟨b⟩⟩) => some ([], .val (.bool (!(a == b))))
  | .lss, .val (.string ⟨⟨a⟩⟩), .val (.string ⟨⟨b⟩⟩) => some ([], .val (.bool (Op.bytesLess a b)))
  | .add, .val (.string ⟨⟨a⟩⟩), .val (.string ⟨⟨b⟩⟩) => some ([a.length + b.length ≤ 9223372036854775807], .val (.string ⟨⟨a ++ b⟩⟩))
  | .eql, .val (.bool a), .val (.bool b) => match P.underlying t with
    | some .bool => some ([], .val (.bool (a == b)))
    | _ => none
  | .neq, .val (.bool a), .val (.bool b) => match P.underlying t with
    | some .bool => some ([], .val (.bool (!(a == b))))
    | _ => none
  | _, _, _ => none
theorem run_equal_bool {P : Program} {w : World} {t : TypeId} (a b : Bool) (h : P.underlying t = some .bool) : (Op.equal t (.bool a) (.bool b)).run P w = .ok (a == b) w := by
  unfold Op.equal
  rw [show Op.maxDepth = 9999 + 1 from rfl, Op.equalIn]
  simp [run_underlying h]
theorem binA_ok {P : Program} {op : BinOp} {t : TypeId} {x y : AV} {ps : List Prop} {z : AV} (h : binA P op t x y = some (ps, z)) (hp : allP ps) {D : Nat → Prop} {w : World} {u v : Value} (hu : Ra D w x u) (hv : Ra D w y v) (xo yo : Operand) :
    ∃ r, ((do Go.eqGuard op t xo yo u v; Go.binOp op t u v) : Sem Value).run P w = .ok r w ∧ Ra D w z r := by
  unfold binA at h
  split at h <;> (try cases h) <;> cases hu <;> cases hv
  · exact ⟨_, by simp [eqGuard, binOp, Op.intArith, rng_wrap hp.1], .val _⟩
  · exact ⟨_, by simp [eqGuard, binOp, Op.intArith, rng_wrap hp.1], .val _⟩
  · exact ⟨_, by simp [eqGuard, binOp, Op.intArith, rng_wrap hp.1], .val _⟩
  · exact ⟨_, by simp [eqGuard, binOp, Op.intCmp], .val _⟩
  · exact ⟨_, by simp [eqGuard, binOp, Op.intCmp], .val _⟩
  · exact ⟨_, by simp [eqGuard, binOp, Op.intCmp], .val _⟩
  · exact ⟨_, by simp [eqGuard, binOp, Op.intCmp], .val _⟩
  · exact ⟨_, by simp [eqGuard, binOp, Op.intCmp], .val _⟩
  · exact ⟨_, by simp [eqGuard, binOp, Op.intCmp], .val _⟩
  · exact ⟨_, by simp [eqGuard, binOp, Op.stringOp], .val _⟩
  · exact ⟨_, by simp [eqGuard, binOp, Op.stringOp], .val _⟩
  · exact ⟨_, by simp [eqGuard, binOp, Op.stringOp], .val _⟩
  · rename_i a b
    exact ⟨_, by
      have : ¬ (9223372036854775807 < ((a.length : Int) + b.length)) := by have := hp.1; omega
      simp [eqGuard, binOp, Op.stringOp, IntKind.max, IntKind.bits, IntKind.signed, ByteArray.size, this]
      first | rfl | exact cat a b, .val _⟩
  · split at h
    · rename_i ht
      cases h
      exact ⟨_, by simp [eqGuard, binOp, run_equal_bool _ _ ht], .val _⟩
    · cases h
  · split at h
    · rename_i ht
      cases h
      exact ⟨_, by simp [eqGuard, binOp, run_equal_bool _ _ ht], .val _⟩
    · cases h
end Copyhold

set_option linter.unusedVariables false
namespace Copyhold
open Go Go.RowKit
def RepC (D : Nat → Prop) (w : World) (cs : List AV) (vs : Array Value) : Prop :=
  vs.size = cs.length ∧ (∀ (j : Nat) (u : Value), vs[j]? = some u → u.oneCell' = true) ∧ ∀ (j : Nat) (a : AV) (u : Value), cs[j]? = some a → vs[j]? = some u → Ra D w a u
theorem fold_set (off : Nat) : ∀ (l : List Value) (k : Nat) (cells : Array Value), off + k + l.length ≤ cells.size →
    ((l.zipIdx k).foldl (fun (cs : Array Value) (p : Value × Nat) => cs.setIfInBounds (off + p.2) p.1) cells).size = cells.size ∧
    ∀ j, ((l.zipIdx k).foldl (fun (cs : Array Value) (p : Value × Nat) => cs.setIfInBounds (off + p.2) p.1) cells)[j]? = if off + k ≤ j ∧ j < off + k + l.length then l[j - (off + k)]? else cells[j]?
  | [], k, cells, _ => ⟨rfl, fun j => by
      have : ¬ (off + k ≤ j ∧ j < off + k + ([] : List Value).length) := by simp
      rw [if_neg this]; rfl⟩
  | v :: l, k, cells, h => by
    simp only [List.length_cons] at h
    obtain ⟨h1, h2⟩ := fold_set off l (k + 1) (cells.setIfInBounds (off + k) v) (by simp; omega)
    simp only [List.zipIdx_cons, List.foldl_cons]
    refine ⟨by rw [h1]; simp, fun j => ?_⟩
    rw [h2 j]
    by_cases hj : off + (k + 1) ≤ j ∧ j < off + (k + 1) + l.length
    · rw [if_pos hj, if_pos (by simp only [List.length_cons]; omega)]
      rw [show j - (off + k) = (j - (off + (k + 1))) + 1 from by omega]
      simp
    · rw [if_neg hj]
      by_cases hk : j = off + k
      · subst hk
        have hlt : off + k < cells.size := by omega
        rw [if_pos (by simp only [List.length_cons]; omega)]
        simp [hlt]
      · rw [if_neg (by simp only [List.length_cons]; omega)]
        rw [Array.getElem?_setIfInBounds_ne (by omega)]
theorem RepC.put {D : Nat → Prop} {w : World} {cs xs : List AV} {vs us : Array Value} (h : RepC D w cs vs) (hx : RepC D w xs us) (off : Nat) (hf : off + xs.length ≤ cs.length) :
    RepC D w (cs.take off ++ xs ++ cs.drop (off + xs.length)) (us.zipIdx.foldl (fun (cs : Array Value) (p : Value × Nat) => cs.setIfInBounds (off + p.2) p.1) vs) := by
  have e : us.zipIdx.foldl (fun (cs : Array Value) (p : Value × Nat) => cs.setIfInBounds (off + p.2) p.1) vs = (us.toList.zipIdx 0).foldl (fun (cs : Array Value) (p : Value × Nat) => cs.setIfInBounds (off + p.2) p.1) vs := by
    rw [← Array.foldl_toList]
    simp
  rw [e]
  have hl : us.toList.length = xs.length := by simp [hx.1]
  obtain ⟨h1, h2⟩ := fold_set off us.toList 0 vs (by rw [hl, h.1]; omega)
  refine ⟨by rw [h1, h.1]; simp; omega, fun j u hu => ?_, fun j a u ha hu => ?_⟩
  · rw [h2 j] at hu
    split at hu
    · exact hx.2.1 (j - (off + 0)) u (by simpa using hu)
    · exact h.2.1 j u hu
  · rw [h2 j, hl] at hu
    have hlo : (cs.take off).length = off := by rw [List.length_take]; omega
    split at hu
    · rename_i hj
      refine hx.2.2 (j - off) a u ?_ (by simpa using hu)
      rw [List.append_assoc, List.getElem?_append_right (by omega), hlo, List.getElem?_append_left (by omega)] at ha
      exact ha
    · rename_i hj
      refine h.2.2 j a u ?_ hu
      by_cases hlt : j < off
      · rw [List.append_assoc, List.getElem?_append_left (by omega), List.getElem?_take, if_pos hlt] at ha
        exact ha
      · rw [List.append_assoc, List.getElem?_append_right (by omega), hlo, List.getElem?_append_right (by omega), List.getElem?_drop] at ha
        rw [show off + xs.length + (j - off - xs.length) = j from by omega] at ha
        exact ha
def afill (pl : List (Nat × Nat)) : List AV → List (Nat × List AV) → Option (List AV)
  | cs, [] => some cs
  | cs, (i, xs) :: r =>
    match pl[i]? with
    | some (off, sz) => bif Nat.beq xs.length sz && Nat.ble (off + sz) cs.length then afill pl (cs.take off ++ xs ++ cs.drop (off + sz)) r else none
    | none => none
theorem fill_ok {D : Nat → Prop} {w : World} {pl : List (Nat × Nat)} {pf : Nat → Option (Nat × Nat)} (hpf : ∀ i p, pl[i]? = some p → pf i = some p) :
    ∀ (qs : List (Nat × List AV)) (ps : List (Nat × Value)) (cs : List AV) (vs : Array Value) (cs' : List AV), RepC D w cs vs → qs.length = ps.length →
      (∀ (j : Nat) (q : Nat × List AV) (p : Nat × Value), qs[j]? = some q → ps[j]? = some p → q.1 = p.1 ∧ RepC D w q.2 p.2.cells) → afill pl cs qs = some cs' → ∃ vs', Instr.fill pf vs ps = some vs' ∧ RepC D w cs' vs'
  | [], [], cs, vs, cs', h, _, _, hf => by
    simp only [afill, Option.some.injEq] at hf
    subst hf
    exact ⟨vs, rfl, h⟩
  | (i, xs) :: qs, (i', v) :: ps, cs, vs, cs', h, hl, hq, hf => by
    obtain ⟨e, hx⟩ := hq 0 _ _ rfl rfl
    simp only at e hx
    subst e
    simp only [afill] at hf
    split at hf
    · rename_i off sz hp
      cases hb : (Nat.beq xs.length sz && Nat.ble (off + sz) cs.length) with
      | false => rw [hb] at hf; cases hf
      | true =>
        rw [hb] at hf
        simp only [Bool.and_eq_true] at hb
        have h1 : xs.length = sz := Nat.eq_of_beq_eq_true hb.1
        have h2 : off + sz ≤ cs.length := Nat.le_of_ble_eq_true hb.2
        subst h1
        obtain ⟨vs', g1, g2⟩ := fill_ok hpf qs ps _ _ cs' (h.put hx off h2) (by simpa using hl) (fun j q p hq' hp' => hq (j + 1) q p (by simpa using hq') (by simpa using hp')) hf
        refine ⟨vs', ?_, g2⟩
        simp only [Instr.fill, hpf i _ hp]
        have : ¬ ((v.cells.size ≠ xs.length || off + v.cells.size > vs.size) = true) := by
          simp [hx.1, h.1]
          omega
        rw [if_neg this]
        exact g1
    · cases hf
def placesP (P : Program) (t : TypeId) : Option (List (Nat × Nat)) :=
  match P.underlying t with
  | some (.struct fields) => fields.toList.mapM fun f => (P.info? f.type).map fun i => (f.offset, i.size)
  | some (.array n e) =>
    match P.info? e with
    | some i => some ((List.range n).map fun j => (j * i.size, i.size))
    | none => none
  | _ => none
def zeroA (P : Program) (t : TypeId) : Option (List AV) :=
  match P.info? t with
  | some it =>
    match it.zero with
    | some z => bif z.cells.toList.all (·.oneCell') then some (z.cells.toList.map .val) else none
    | none => none
  | none => none
def cellsAll : List (Nat × AV) → Option (List (Nat × List AV))
  | [] => some []
  | (i, x) :: r =>
    match cellsA x, cellsAll r with
    | some cs, some qs => some ((i, cs) :: qs)
    | _, _ => none
def buildA (P : Program) (t : TypeId) (parts : List (Nat × AV)) : Option AV :=
  match zeroA P t, placesP P t, cellsAll parts with
  | some z, some pl, some qs =>
    match afill pl z qs with
    | some cs => some (.agg cs)
    | none => none
  | _, _, _ => none
theorem zeroA_ok {D : Nat → Prop} {P : Program} {w : World} {t : TypeId} {cs : List AV} (h : zeroA P t = some cs) : ∃ it z, P.info? t = some it ∧ it.zero = some z ∧ RepC D w cs z.cells := by
  unfold zeroA at h
  split at h
  · rename_i it hi
    split at h
    · rename_i z hz
      cases hb : z.cells.toList.all (·.oneCell') with
      | false => rw [hb] at h; cases h
      | true =>
        rw [hb] at h
        obtain rfl := Option.some.inj h
        refine ⟨it, z, hi, hz, by simp, fun j u hu => ?_, fun j a u ha hu => ?_⟩
        · exact List.all_eq_true.1 hb u (by have := Array.mem_of_getElem? hu; simpa using this)
        · simp only [List.getElem?_map, Array.getElem?_toList, hu] at ha
          obtain rfl := Option.some.inj ha
          exact .val u
    · cases h
  · cases h
theorem cellsAll_ok {D : Nat → Prop} {w : World} : ∀ (parts : List (Nat × AV)) (qs : List (Nat × List AV)) (vs : List (Nat × Value)), cellsAll parts = some qs → parts.length = vs.length →
    (∀ (j : Nat) (p : Nat × AV) (v : Nat × Value), parts[j]? = some p → vs[j]? = some v → p.1 = v.1 ∧ Ra D w p.2 v.2) → qs.length = vs.length ∧ ∀ (j : Nat) (q : Nat × List AV) (p : Nat × Value), qs[j]? = some q → vs[j]? = some p → q.1 = p.1 ∧ RepC D w q.2 p.2.cells
  | [], qs, [], h, _, _ => by
    obtain rfl := Option.some.inj h
    exact ⟨rfl, fun j q p hq => by simp at hq⟩
  | (i, x) :: parts, qs, (i', v) :: vs, h, hl, hr => by
    simp only [cellsAll] at h
    split at h
    · rename_i cs qs' hc hq'
      obtain rfl := Option.some.inj h
      obtain ⟨h1, h2⟩ := cellsAll_ok parts qs' vs hq' (by simpa using hl) (fun j p v hp hv => hr (j + 1) p v (by simpa using hp) (by simpa using hv))
      refine ⟨by simp [h1], fun j q p hq hp => ?_⟩
      cases j with
      | zero =>
        simp at hq hp
        subst hq hp
        obtain ⟨e1, e2⟩ := hr 0 _ _ rfl rfl
        exact ⟨e1, cellsA_ok hc e2⟩
      | succ j => exact h2 j q p (by simpa using hq) (by simpa using hp)
    · cases h
theorem buildA_ok {D : Nat → Prop} {P : Program} {w : World} {t : TypeId} {parts : List (Nat × AV)} {x : AV} (h : buildA P t parts = some x) {vs : Array (Nat × Value)} (hl : parts.length = vs.size)
    (hr : ∀ (j : Nat) (p : Nat × AV) (v : Nat × Value), parts[j]? = some p → vs[j]? = some v → p.1 = v.1 ∧ Ra D w p.2 v.2) : ∃ v, (Instr.build t vs).run P w = .ok v w ∧ Ra D w x v := by
  unfold buildA at h
  split at h
  · rename_i z pl qs hz hpl hqs
    split at h
    · rename_i cs hcs
      obtain rfl := Option.some.inj h
      obtain ⟨it, zv, hi, hzv, hrep⟩ := zeroA_ok (D := D) (w := w) hz
      obtain ⟨g1, g2⟩ := cellsAll_ok (D := D) (w := w) parts qs vs.toList hqs (by simpa using hl) (fun j p v hp hv => hr j p v hp (by simpa using hv))
      have fin : ∀ pf : Nat → Option (Nat × Nat), (∀ i p, pl[i]? = some p → pf i = some p) → (∀ cells, Instr.fill pf zv.cells vs.toList = some cells → P.built t vs.toList = some cells) → ∃ v, (Instr.build t vs).run P w = .ok v w ∧ Ra D w (.agg cs) v := by
        intro pf hpf hb
        obtain ⟨vs', f1, f2⟩ := fill_ok (D := D) (w := w) hpf qs vs.toList z zv.cells cs hrep g1 g2 hcs
        exact ⟨.agg vs', run_build w t vs vs' (hb vs' f1), .agg cs vs' f2.1.symm f2.2.1 (fun j x v hx hv => f2.2.2 j x v hx hv)⟩
      unfold placesP at hpl
      split at hpl
      · rename_i fields hu
        refine fin (fun i => pl.toArray[i]?) (fun i p hp => by simpa using hp) (fun cells hc => ?_)
        simp only [Program.built, hi, hu, hzv, hpl]
        exact hc
      · rename_i n e hu
        split at hpl
        · rename_i ie hie
          obtain rfl := Option.some.inj hpl
          refine fin (fun i => some (i * ie.size, ie.size)) (fun i p hp => ?_) (fun cells hc => ?_)
          · simp only [List.getElem?_map] at hp
            cases hr : (List.range n)[i]? with
            | none => rw [hr] at hp; cases hp
            | some k =>
              rw [hr] at hp
              obtain rfl := Option.some.inj hp
              have := List.getElem?_eq_some_iff.1 hr
              obtain ⟨h1, h2⟩ := this
              simp at h2
              rw [h2]
          · simp only [Program.built, hi, hu, hzv, hie]
            exact hc
        · cases hpl
      · cases hpl
    · cases h
  · cases h
end Copyhold
