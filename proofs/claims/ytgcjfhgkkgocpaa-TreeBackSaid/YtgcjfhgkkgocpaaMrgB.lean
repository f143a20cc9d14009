/- Abstract values and states over any program: what a function's slots and boxes hold, its data apart from memory; how they stand while worlds go on. No conditions beyond each law's own. Steps of operations over abstract states, and the orders of a region: one order, checked by program, stands for all. Over any program. No conditions beyond each law's own. -/
import Derived.Test.YtgcjfhgkkgocpaaMrgA
import Derived.Orders
set_option linter.unusedVariables false
namespace Copyhold
open Go Go.RowKit
inductive MK where
  | i (z : Int)
  | s (l : List UInt8)
  deriving DecidableEq
def MK.val : MK → Value
  | .i z => .int .i64 z
  | .s l => .string ⟨⟨l⟩⟩
inductive AV where
  | val (v : Value)
  | any
  | sl (k : Nat) (t : Bool) (xs : List (List AV))
  | agg (cs : List AV)
  | dptr (cs : List AV)
  | tup (l : List AV)
  | ptr (id b off : Nat)
  | rw (id : Nat) (V : Value) (n : Nat)
  | ep (id : Nat) (V : Value) (k i off : Nat)
  | clo (f : FuncId) (caps : List AV)
  | mp (es : List (MK × AV))
  | mref (id r : Nat)
  | pre (k : Nat) (xs : List (List AV)) (i : Nat)
  | rs (id : Nat) (V : Value) (k lo : Nat)
inductive Ra (D : Nat → Prop) (w : World) : AV → Value → Prop
  | val (v : Value) : Ra D w (.val v) v
  | any (v : Value) : Ra D w .any v
  | sl (k : Nat) (t : Bool) (xs : List (List AV)) (A : Option Addr) (c b off : Nat) (vs : Nat → Nat → Value) :
      xs.length ≤ c → (t = true → c = xs.length) → (0 < xs.length → A = some ⟨b, off, none⟩ ∧ D b ∧ b < w.heap.size) →
      (∀ (i : Nat) (e : List AV), xs[i]? = some e → e.length = k) →
      (∀ (i : Nat) (e : List AV) (j : Nat) (x : AV), xs[i]? = some e → e[j]? = some x → w.cell? ⟨b, off + (i * k + j), none⟩ = some (vs i j) ∧ (vs i j).oneCell' = true) →
      (∀ (i : Nat) (e : List AV) (j : Nat) (x : AV), xs[i]? = some e → e[j]? = some x → Ra D w x (vs i j)) → Ra D w (.sl k t xs) (.slice A xs.length c)
  | agg (cs : List AV) (vs : Array Value) : cs.length = vs.size → (∀ (j : Nat) (v : Value), vs[j]? = some v → v.oneCell' = true) →
      (∀ (j : Nat) (x : AV) (v : Value), cs[j]? = some x → vs[j]? = some v → Ra D w x v) → Ra D w (.agg cs) (.agg vs)
  | dptr (cs : List AV) (b off : Nat) (vs : Nat → Value) : D b → b < w.heap.size →
      (∀ (j : Nat) (x : AV), cs[j]? = some x → w.cell? ⟨b, off + j, none⟩ = some (vs j) ∧ (vs j).oneCell' = true) →
      (∀ (j : Nat) (x : AV), cs[j]? = some x → Ra D w x (vs j)) → Ra D w (.dptr cs) (.pointer (some ⟨b, off, none⟩))
  | tup (l : List AV) (vs : Array Value) : l.length = vs.size → (∀ (j : Nat) (x : AV) (v : Value), l[j]? = some x → vs[j]? = some v → Ra D w x v) → Ra D w (.tup l) (.tuple vs)
  | ptr (id b off : Nat) : Ra D w (.ptr id b off) (.pointer (some ⟨b, off, none⟩))
  | rw (id n c : Nat) (A : Option Addr) : Ra D w (.rw id (.slice A n c) n) (.slice A n c)
  | ep (id b n cap k i off : Nat) : Ra D w (.ep id (.slice (some ⟨b, 0, none⟩) n cap) k i off) (.pointer (some ⟨b, i * k + off, none⟩))
  | clo (f : FuncId) (caps : List AV) (vs : Array Value) : caps.length = vs.size → (∀ (j : Nat) (x : AV) (v : Value), caps[j]? = some x → vs[j]? = some v → Ra D w x v) → Ra D w (.clo f caps) (.func (.func f) #[] vs)
  | mp (es : List (MK × AV)) (r : Nat) (es' : Array MapEntry) (clock : Nat) : D r → r < w.heap.size → w.heap[r]? = some (.map es' clock) → es.length = es'.size →
      (∀ (j : Nat) (p : MK × AV) (e : MapEntry), es[j]? = some p → es'[j]? = some e → e.key = p.1.val) →
      (∀ (j : Nat) (p : MK × AV) (e : MapEntry), es[j]? = some p → es'[j]? = some e → Ra D w p.2 e.val) → Ra D w (.mp es) (.map (some r))
  | mref (id r : Nat) : Ra D w (.mref id r) (.map (some r))
  | pre (k : Nat) (xs : List (List AV)) (i : Nat) (A : Option Addr) (c : Nat) : Ra D w (.sl k true xs) (.slice A xs.length c) → i ≤ xs.length → Ra D w (.pre k xs i) (.slice A i c)
  | rs (id b n cap k lo : Nat) : lo < n → Ra D w (.rs id (.slice (some ⟨b, 0, none⟩) n cap) k lo) (.slice (some ⟨b, lo * k, none⟩) (n - lo) (cap - lo))
theorem Ra.frame {D D' : Nat → Prop} {w w' : World} {x : AV} {v : Value} (h : Ra D w x v) (hD : ∀ b, D b → D' b) (hs : w.heap.size ≤ w'.heap.size)
    (hk : ∀ b, D b → b < w.heap.size → w'.heap[b]? = w.heap[b]?) : Ra D' w' x v := by
  induction h with
  | val v => exact .val v
  | any v => exact .any v
  | sl k t xs A c b off vs h1 h2 h3 h4 h5 h6 ih =>
    by_cases h0 : 0 < xs.length
    · obtain ⟨hA, hDb, hb⟩ := h3 h0
      exact .sl k t xs A c b off vs h1 h2 (fun _ => ⟨hA, hD b hDb, Nat.lt_of_lt_of_le hb hs⟩) h4
        (fun i e j x he hx => ⟨(World.cell?_of_block (hk b hDb hb)).trans (h5 i e j x he hx).1, (h5 i e j x he hx).2⟩) ih
    · have hx : xs = [] := List.eq_nil_of_length_eq_zero (by omega)
      subst hx
      exact .sl k t [] A c b off vs h1 h2 (fun h => absurd h h0) (fun i e h => by simp at h) (fun i e j x h => by simp at h) (fun i e j x h => by simp at h)
  | agg cs vs h1 h2 h3 ih => exact .agg cs vs h1 h2 ih
  | dptr cs b off vs h1 h2 h3 h4 ih =>
    exact .dptr cs b off vs (hD b h1) (Nat.lt_of_lt_of_le h2 hs) (fun j x hx => ⟨(World.cell?_of_block (hk b h1 h2)).trans (h3 j x hx).1, (h3 j x hx).2⟩) ih
  | tup l vs h1 h2 ih => exact .tup l vs h1 ih
  | ptr id b off => exact .ptr id b off
  | rw id n c A => exact .rw id n c A
  | ep id b n cap k i off => exact .ep id b n cap k i off
  | clo f caps vs h1 h2 ih => exact .clo f caps vs h1 ih
  | mp es r es' clock h1 h2 h3 h4 h5 h6 ih => exact .mp es r es' clock (hD r h1) (Nat.lt_of_lt_of_le h2 hs) ((hk r h1 h2).trans h3) h4 h5 ih
  | mref id r => exact .mref id r
  | pre k xs i A c h1 h2 ih => exact .pre k xs i A c ih h2
  | rs id b n cap k lo h => exact .rs id b n cap k lo h
inductive Bx where
  | box (b : Nat) (T : TypeId) (cs : List AV)
  | row (V : Value) (e : TypeId) (k : Nat) (xs : List (List AV))
  | mp (r : Nat) (es : List (MK × AV))
def Bx.blk : Bx → Option Nat
  | .box b _ _ => some b
  | .row V _ _ _ => V.ownBlock
  | .mp r _ => some r
def BoxR (D : Nat → Prop) (w : World) : Bx → Prop
  | .box b T cs => ∃ vs : Array Value, TBox w b T vs ∧ vs.size = cs.length ∧ (∀ (j : Nat) (v : Value), vs[j]? = some v → v.oneCell' = true) ∧ ∀ (j : Nat) (a : AV) (v : Value), cs[j]? = some a → vs[j]? = some v → Ra D w a v
  | .row V e k xs => (∀ l ∈ xs, l.length = k) ∧ ∃ us : List Value, w.ownsRow 0 e k V xs.length us ∧ (∀ u ∈ us, u.oneCell' = true) ∧ ∀ (j : Nat) (a : AV) (u : Value), xs.flatten[j]? = some a → us[j]? = some u → Ra D w a u
  | .mp r es => ∃ (es' : Array MapEntry) (clock : Nat), w.heap[r]? = some (.map es' clock) ∧ es.length = es'.size ∧ (∀ (j : Nat) (p : MK × AV) (e : MapEntry), es[j]? = some p → es'[j]? = some e → e.key = p.1.val) ∧
      ∀ (j : Nat) (p : MK × AV) (e : MapEntry), es[j]? = some p → es'[j]? = some e → Ra D w p.2 e.val
theorem owns_block_same {w w' : World} {e : TypeId} {k n : Nat} {V : Value} {us : List Value} (h : w.ownsRow 0 e k V n us) (hb : ∀ g, V.ownBlock = some g → w'.heap[g]? = w.heap[g]?) : w'.ownsRow 0 e k V n us := by
  refine ⟨h.1, ?_⟩
  rcases h.2 with h' | ⟨g, cap, cur, rfl, hg, hgg, r⟩
  · exact .inl h'
  · exact .inr ⟨g, cap, cur, rfl, hg, by rw [hb g rfl]; exact hgg, r⟩
theorem owns_lt {w : World} {e : TypeId} {k n : Nat} {V : Value} {us : List Value} (h : w.ownsRow 0 e k V n us) {g : Nat} (hg : V.ownBlock = some g) : g < w.heap.size := (own_block_ge h g hg).2
theorem BoxR.frame {D D' : Nat → Prop} {w w' : World} {x : Bx} (h : BoxR D w x) (hD : ∀ b, D b → D' b) (hs : w.heap.size ≤ w'.heap.size)
    (hk : ∀ b, D b → b < w.heap.size → w'.heap[b]? = w.heap[b]?) (hx : ∀ g, x.blk = some g → w'.heap[g]? = w.heap[g]?) : BoxR D' w' x := by
  cases x with
  | box b T cs =>
    obtain ⟨vs, h1, h2, h3, h4⟩ := h
    exact ⟨vs, (hx b rfl).trans h1, h2, h3, fun j a v ha hv => (h4 j a v ha hv).frame hD hs hk⟩
  | row V e k xs =>
    obtain ⟨h0, us, h1, h2, h3⟩ := h
    exact ⟨h0, us, owns_block_same h1 hx, h2, fun j a v ha hv => (h3 j a v ha hv).frame hD hs hk⟩
  | mp r es =>
    obtain ⟨es', clock, h1, h2, h3, h4⟩ := h
    exact ⟨es', clock, (hx r rfl).trans h1, h2, h3, fun j p e hp he => (h4 j p e hp he).frame hD hs hk⟩
theorem BoxR.lt {D : Nat → Prop} {w : World} {x : Bx} (h : BoxR D w x) {g : Nat} (hg : x.blk = some g) : g < w.heap.size := by
  cases x with
  | box b T cs =>
    obtain ⟨vs, h1, _⟩ := h
    obtain rfl := Option.some.inj hg
    exact h1.lt
  | row V e k xs =>
    obtain ⟨h0, us, h1, _⟩ := h
    exact owns_lt h1 hg
  | mp r es =>
    obtain ⟨es', clock, h1, _⟩ := h
    obtain rfl := Option.some.inj hg
    exact (Array.getElem?_eq_some_iff.1 h1).1
structure FS where
  tm : Nat → AV
  bx : Nat → Option Bx
def FS.ev (s : FS) : Operand → AV
  | .tmp t => s.tm t
  | .const v => .val v
  | .global g => .val (.pointer (some ⟨g, 0, none⟩))
  | .func f => .val (.func (.func f) #[] #[])
def FS.put (s : FS) (d : Option Tmp) (x : AV) : FS :=
  match d with
  | some d => { s with tm := fun t => if t = d then x else s.tm t }
  | none => s
def FS.setB (s : FS) (id : Nat) (y : Option Bx) : FS := { s with bx := fun i => if i = id then y else s.bx i }
def FS.addB (s : FS) : Option (Nat × Bx) → FS
  | none => s
  | some (id, y) => s.setB id (some y)
structure Cx where
  base : Nat
  w0 : World
  n : Nat
  D0 : Nat → Prop
structure RelD (c : Cx) (D : Nat → Prop) (s : FS) (a : Act) (w : World) : Prop where
  defers : a.defers = []
  size : a.tmps.size = c.n
  below : Below c.base c.w0 w
  dlt : ∀ b, D b → b < w.heap.size
  old : (∀ b, c.D0 b → D b) ∧ ∀ b, D b → c.D0 b ∨ c.base ≤ b
  tm : ∀ t v, a.tmps[t]? = some v → Ra D w (s.tm t) v
  bx : ∀ id x, s.bx id = some x → (∀ g, x.blk = some g → c.base ≤ g ∧ ¬ D g) ∧ BoxR D w x
  apart : ∀ i j x y, s.bx i = some x → s.bx j = some y → i ≠ j → ∀ g, x.blk = some g → y.blk ≠ some g
def Rel (c : Cx) (s : FS) (a : Act) (w : World) : Prop := c.base ≤ w.heap.size ∧ ∃ D, RelD c D s a w
theorem RelD.ev {c : Cx} {D : Nat → Prop} {s : FS} {a : Act} {w : World} (h : RelD c D s a w) (y : Operand) (hy : ∀ t, y = .tmp t → t < c.n) : Ra D w (s.ev y) (a.eval y) := by
  cases y with
  | tmp t =>
    have ht := hy t rfl
    rw [← h.size] at ht
    have := h.tm t a.tmps[t] (Array.getElem?_eq_getElem ht)
    simpa [FS.ev, Act.eval, ht] using this
  | const v => exact .val v
  | global g => exact .val _
  | func f => exact .val _
theorem RelD.boxes {c : Cx} {D : Nat → Prop} {s : FS} {a : Act} {w : World} (h : RelD c D s a w) : ∀ id x, s.bx id = some x → BoxR D w x := fun id x hx => (h.bx id x hx).2
theorem tmps_put {a : Act} {d : Option Tmp} {v : Value} {t : Nat} {u : Value} (h : (a.put d v).tmps[t]? = some u) : (d = some t ∧ u = v) ∨ (d ≠ some t ∧ a.tmps[t]? = some u) := by
  cases d with
  | none => exact .inr ⟨by simp, h⟩
  | some d =>
    by_cases hd : d = t
    · subst hd
      simp only [Act.put, Array.getElem?_setIfInBounds] at h
      split at h
      · split at h
        · exact .inl ⟨rfl, (Option.some.inj h).symm⟩
        · cases h
      · rename_i hne
        exact absurd trivial hne
    · simp only [Act.put, Array.getElem?_setIfInBounds_ne hd] at h
      exact .inr ⟨by simpa using hd, h⟩
theorem RelD.put {c : Cx} {D : Nat → Prop} {s : FS} {a : Act} {w : World} (h : RelD c D s a w) (d : Option Tmp) {x : AV} {v : Value} (hv : Ra D w x v) : RelD c D (s.put d x) (a.put d v) w := by
  refine ⟨?_, ?_, h.below, h.dlt, h.old, fun t u hu => ?_, ?_, ?_⟩
  · cases d <;> exact h.defers
  · cases d <;> simp [Act.put, h.size]
  · rcases tmps_put hu with ⟨rfl, rfl⟩ | ⟨hd, hu2⟩
    · simpa [FS.put] using hv
    · have := h.tm t u hu2
      cases d with
      | none => exact this
      | some d =>
        have : t ≠ d := fun e => hd (by rw [e])
        simpa [FS.put, this] using h.tm t u hu2
  · cases d <;> exact h.bx
  · cases d <;> exact h.apart
theorem RelD.grow {c : Cx} {D D' : Nat → Prop} {s : FS} {a : Act} {w w' : World} (h : RelD c D s a w) (hc : c.base ≤ w.heap.size) (hb : Below w.heap.size w w') (hD : ∀ b, D b → D' b)
    (hD' : ∀ b, D' b → b < w'.heap.size ∧ (D b ∨ w.heap.size ≤ b)) (nb : Option (Nat × Bx))
    (hnb : ∀ id y, nb = some (id, y) → s.bx id = none ∧ (∀ g, y.blk = some g → w.heap.size ≤ g ∧ ¬ D' g) ∧ BoxR D' w' y) : RelD c D' (s.addB nb) a w' := by
  have hold : ∀ id x, s.bx id = some x → (∀ g, x.blk = some g → c.base ≤ g ∧ ¬ D' g) ∧ BoxR D' w' x := fun id x hx => by
    obtain ⟨h1, h3⟩ := h.bx id x hx
    refine ⟨fun g hg => ⟨(h1 g hg).1, fun hd => ?_⟩, h3.frame hD hb.size (fun b _ hl => hb.block b hl) (fun g hg => hb.block _ (h3.lt hg))⟩
    have := h3.lt hg
    rcases (hD' _ hd).2 with h' | h'
    · exact (h1 g hg).2 h'
    · omega
  refine ⟨h.defers, h.size, h.below.trans (hb.mono hc), fun b hd => (hD' b hd).1, ⟨fun b hb => hD b (h.old.1 b hb), fun b hb => ?_⟩, ?_, ?_, ?_⟩
  · rcases (hD' b hb).2 with h' | h'
    · exact h.old.2 b h'
    · exact .inr (Nat.le_trans hc h')
  · intro t v hv
    have := (h.tm t v hv).frame (w' := w') hD hb.size (fun b _ hl => hb.block b hl)
    rcases nb with _ | ⟨id, y⟩ <;> exact this
  · rcases nb with _ | ⟨id, y⟩
    · exact hold
    · intro i x hx
      simp only [FS.addB, FS.setB] at hx
      split at hx
      · obtain rfl := Option.some.inj hx
        obtain ⟨_, h1, h3⟩ := hnb id y rfl
        exact ⟨fun g hg => ⟨Nat.le_trans hc (h1 g hg).1, (h1 g hg).2⟩, h3⟩
      · exact hold i x hx
  · rcases nb with _ | ⟨id, y⟩
    · exact h.apart
    · obtain ⟨h0, h1, h3⟩ := hnb id y rfl
      intro i j x x' hx hx' hij g hg hg'
      simp only [FS.addB, FS.setB] at hx hx'
      split at hx <;> split at hx'
      · rename_i e1 e2; exact absurd (e1.trans e2.symm) hij
      · obtain rfl := Option.some.inj hx
        have := (h.bx j x' hx').2.lt hg'
        have := (h1 g hg).1
        omega
      · obtain rfl := Option.some.inj hx'
        have := (h.bx i x hx).2.lt hg
        have := (h1 g hg').1
        omega
      · exact h.apart i j x x' hx hx' hij g hg hg'
theorem RelD.mutF {c : Cx} {D D' : Nat → Prop} {s : FS} {a : Act} {w w' : World} (h : RelD c D s a w) (hc : c.base ≤ w.heap.size) (id : Nat) (y y' : Bx) (hy : s.bx id = some y) (h0 : Below 0 w w')
    (hk : ∀ k, y.blk ≠ some k → k < w.heap.size → w'.heap[k]? = w.heap[k]?) (hDD : ∀ b, D b → D' b) (hD' : ∀ b, D' b → b < w'.heap.size ∧ (D b ∨ y.blk = some b ∨ w.heap.size ≤ b))
    (hb : ∀ g, y'.blk = some g → (y.blk = some g ∨ w.heap.size ≤ g) ∧ ¬ D' g) (hR : BoxR D' w' y') : RelD c D' (s.setB id (some y')) a w' := by
  have hyb := (h.bx id y hy)
  have hkD : ∀ b, D b → b < w.heap.size → w'.heap[b]? = w.heap[b]? := fun b hd hl => hk b (fun e => (hyb.1 b e).2 hd) hl
  refine ⟨h.defers, h.size, ?_, fun b hd => (hD' b hd).1, ⟨fun b hb => hDD b (h.old.1 b hb), fun b hb => ?_⟩, fun t v hv => (h.tm t v hv).frame hDD h0.size hkD, ?_, ?_⟩
  · refine ⟨h0.os.trans h.below.os, h0.tape.trans h.below.tape, h0.output.trans h.below.output, Nat.le_trans h.below.size h0.size, fun k hlt => ?_⟩
    rw [hk k (fun e => by have := (hyb.1 k e).1; omega) (by omega)]
    exact h.below.block k hlt
  · rcases (hD' b hb).2 with e | e | e
    · exact h.old.2 b e
    · exact .inr (hyb.1 b e).1
    · exact .inr (Nat.le_trans hc e)
  · intro i x hx
    simp only [FS.setB] at hx
    split at hx
    · obtain rfl := Option.some.inj hx
      refine ⟨fun g hg => ⟨?_, (hb g hg).2⟩, hR⟩
      rcases (hb g hg).1 with e | e
      · exact (hyb.1 g e).1
      · exact Nat.le_trans hc e
    · rename_i hne
      obtain ⟨h1, h3⟩ := h.bx i x hx
      refine ⟨fun g hg => ⟨(h1 g hg).1, fun hd => ?_⟩, h3.frame hDD h0.size hkD (fun g hg => hk _ (h.apart i id x y hx hy hne g hg) (h3.lt hg))⟩
      rcases (hD' g hd).2 with e | e | e
      · exact (h1 g hg).2 e
      · exact h.apart i id x y hx hy hne g hg e
      · have := h3.lt hg; omega
  · intro i j x x' hx hx' hij g hg hg'
    simp only [FS.setB] at hx hx'
    split at hx <;> split at hx'
    · rename_i e1 e2; exact absurd (e1.trans e2.symm) hij
    · rename_i e1 e2
      obtain rfl := Option.some.inj hx
      have h3 := (h.bx j x' hx').2.lt hg'
      rcases (hb g hg).1 with e | e
      · exact h.apart id j y x' hy hx' (fun e => e2 e.symm) g e hg'
      · omega
    · rename_i e1 e2
      obtain rfl := Option.some.inj hx'
      have h3 := (h.bx i x hx).2.lt hg
      rcases (hb g hg').1 with e | e
      · exact h.apart i id x y hx hy e1 g hg e
      · omega
    · exact h.apart i j x x' hx hx' hij g hg hg'
end Copyhold

set_option linter.unusedVariables false
namespace Copyhold
open Go Go.RowKit
def isLd : Op → Bool
  | .load _ _ => true
  | _ => false
def isRd (P : Program) : Op → Bool
  | .binOp _ t _ _ _ =>
    match P.underlying t with
    | some (.slice _) => false
    | _ => true
  | .move _ | .assign _ | .pick _ _ _ | .fieldAddr _ _ _ | .field _ _ _ | .extract _ _ | .unOp _ _ _ | .load _ _ | .indexAddr _ _ _ | .index _ _ _
  | .slice _ _ _ _ _ | .convert _ _ _ | .build _ _ | .makeFunc _ _ _ | .nilCheck _ => true
  | .call { callee := .builtin .len, .. } | .call { callee := .builtin .cap, .. } | .call { callee := .builtin .max, .. } | .call { callee := .builtin .min, .. }
  | .call { callee := .builtin .real, .. } | .call { callee := .builtin .imag, .. } | .call { callee := .builtin .complex, .. } => true
  | _ => false
def isMut : Op → Bool
  | .store _ _ _ | .insert _ _ _ _ | .mapUpdate _ _ _ _ => true
  | .call { callee := .builtin .append, .. } | .call { callee := .builtin .copy, .. } => true
  | _ => false
def gd (ops : Array Oper) (s : FS) (o : Oper) : Option Bool :=
  match o.guard with
  | none => some true
  | some (j, c) =>
    match (ops[j]?).bind (·.dst) with
    | some t =>
      match s.tm t with
      | .val (.bool b) => some (b == c)
      | .val (.tuple _) => some false
      | _ => none
    | none => none
def opsR (D : Nat → Prop) (w : World) (s : FS) (ρ : Operand → Value) (o : Oper) : Prop := ∀ y ∈ o.op.operands, Ra D w (s.ev y) (ρ y)
def PureOK (P : Program) (o : Oper) (s : FS) (x : AV) : Prop :=
  ∀ (D : Nat → Prop) (w : World) (ρ : Operand → Value), opsR D w s ρ o → ∃ v, (execOp ρ o).run P w = .ok (.value v) w ∧ Ra D w x v
def ReadOK (P : Program) (o : Oper) (s : FS) (x : AV) : Prop :=
  ∀ (D : Nat → Prop) (w : World) (ρ : Operand → Value), opsR D w s ρ o → (∀ id y, s.bx id = some y → BoxR D w y) → ∃ v, (execOp ρ o).run P w = .ok (.value v) w ∧ Ra D w x v
def MonoOK (P : Program) (o : Oper) (s : FS) (Out : AV → Option (Nat × Bx) → Prop) : Prop :=
  ∀ (D : Nat → Prop) (w : World) (a : Act) (Q : Exit → Act → World → Prop) (K : Act → World → Prop), (∀ b, D b → b < w.heap.size) → opsR D w s a.eval o → (∀ id y, s.bx id = some y → BoxR D w y) →
    (∀ v w' x nb (D' : Nat → Prop), Out x nb → Below w.heap.size w w' → (∀ b, D b → D' b) → (∀ b, D' b → b < w'.heap.size ∧ (D b ∨ w.heap.size ≤ b)) → Ra D' w' x v →
      (∀ id y, nb = some (id, y) → (∀ g, y.blk = some g → w.heap.size ≤ g ∧ ¬ D' g) ∧ BoxR D' w' y) → K (a.put o.dst v) w') → o.wp P a w K Q
def MutOK (P : Program) (o : Oper) (s : FS) (id : Nat) (Out : AV → Bx → Prop) : Prop :=
  ∀ (D : Nat → Prop) (w : World) (a : Act) (Q : Exit → Act → World → Prop) (K : Act → World → Prop), (∀ b, D b → b < w.heap.size) → opsR D w s a.eval o → (∀ id y, s.bx id = some y → BoxR D w y) →
    (∀ y g, s.bx id = some y → y.blk = some g → ¬ D g) →
    (∀ v w' x y y', Out x y' → s.bx id = some y → Below 0 w w' → (∀ k, y.blk ≠ some k → k < w.heap.size → w'.heap[k]? = w.heap[k]?) → (∀ g, y'.blk = some g → (y.blk = some g ∨ w.heap.size ≤ g) ∧ ¬ D g) →
      BoxR D w' y' → Ra D w' x v → K (a.put o.dst v) w') → o.wp P a w K Q
def MutF (P : Program) (o : Oper) (s : FS) (id : Nat) (Out : AV → Bx → Prop) : Prop :=
  ∀ (D : Nat → Prop) (w : World) (a : Act) (Q : Exit → Act → World → Prop) (K : Act → World → Prop), (∀ b, D b → b < w.heap.size) → opsR D w s a.eval o → (∀ id y, s.bx id = some y → BoxR D w y) →
    (∀ y g, s.bx id = some y → y.blk = some g → ¬ D g) →
    (∀ v w' x y y' (D' : Nat → Prop), Out x y' → s.bx id = some y → Below 0 w w' → (∀ k, y.blk ≠ some k → k < w.heap.size → w'.heap[k]? = w.heap[k]?) → (∀ b, D b → D' b) → (∀ b, D' b → b < w'.heap.size ∧ (D b ∨ y.blk = some b ∨ w.heap.size ≤ b)) →
      (∀ g, y'.blk = some g → (y.blk = some g ∨ w.heap.size ≤ g) ∧ ¬ D' g) → BoxR D' w' y' → Ra D' w' x v → K (a.put o.dst v) w') → o.wp P a w K Q
theorem MutOK.up {P : Program} {o : Oper} {s : FS} {id : Nat} {Out : AV → Bx → Prop} (h : MutOK P o s id Out) : MutF P o s id Out := fun D w a Q K hD ho hb hn hc =>
  h D w a Q K hD ho hb hn (fun v w' x y y' hO hy h0 hk hb' hB hv => hc v w' x y y' D hO hy h0 hk (fun _ h => h) (fun b hd => ⟨Nat.lt_of_lt_of_le (hD b hd) h0.size, .inl hd⟩) hb' hB hv)
def StepR (P : Program) (ops : Array Oper) (i : Nat) (s : FS) (K : FS → Prop) : Prop :=
  ∃ o, ops[i]? = some o ∧
    ((gd ops s o = some false ∧ K (s.put o.dst (.val undef))) ∨
     (gd ops s o = some true ∧
      ((∃ x, (PureOK P o s x ∨ (isLd o.op = true ∧ ReadOK P o s x)) ∧ K (s.put o.dst x)) ∨
       (isRd P o.op = false ∧ ∃ Out, MonoOK P o s Out ∧ ∀ x nb, Out x nb → (∀ id y, nb = some (id, y) → s.bx id = none) ∧ K ((s.put o.dst x).addB nb)) ∨
       (isRd P o.op = false ∧ isMut o.op = true ∧ ∃ id Out, MutF P o s id Out ∧ ∀ x y', Out x y' → K ((s.put o.dst x).setB id (some y'))))))
theorem StepR.mono {P : Program} {ops : Array Oper} {i : Nat} {s : FS} {K K' : FS → Prop} (h : StepR P ops i s K) (hk : ∀ s, K s → K' s) : StepR P ops i s K' := by
  obtain ⟨o, ho, h⟩ := h
  refine ⟨o, ho, ?_⟩
  rcases h with ⟨h1, h2⟩ | ⟨h1, h | ⟨h2, Out, h3, h4⟩ | ⟨h2, h3, id, Out, h4, h5⟩⟩
  · exact .inl ⟨h1, hk _ h2⟩
  · obtain ⟨x, hx, h2⟩ := h
    exact .inr ⟨h1, .inl ⟨x, hx, hk _ h2⟩⟩
  · exact .inr ⟨h1, .inr (.inl ⟨h2, Out, h3, fun x nb hO => ⟨(h4 x nb hO).1, hk _ (h4 x nb hO).2⟩⟩)⟩
  · exact .inr ⟨h1, .inr (.inr ⟨h2, h3, id, Out, h4, fun x y hO => hk _ (h5 x y hO)⟩)⟩
def slotsOk (n : Nat) (ops : Array Oper) : Bool :=
  ops.all fun o => (match o.dst with | some d => decide (d < n) | none => true) && o.op.operands.all fun | .tmp t => decide (t < n) | _ => true
theorem slotsOk_dst {n : Nat} {ops : Array Oper} (h : slotsOk n ops = true) {i : Nat} {o : Oper} (ho : ops[i]? = some o) {d : Nat} (hd : o.dst = some d) : d < n := by
  have := Array.all_eq_true_iff_forall_mem.1 h o (Array.mem_of_getElem? ho)
  simp [hd] at this
  exact this.1
theorem slotsOk_op {n : Nat} {ops : Array Oper} (h : slotsOk n ops = true) {i : Nat} {o : Oper} (ho : ops[i]? = some o) {y : Operand} (hy : y ∈ o.op.operands) : ∀ t, y = .tmp t → t < n := by
  intro t ht
  have := Array.all_eq_true_iff_forall_mem.1 h o (Array.mem_of_getElem? ho)
  simp only [Bool.and_eq_true] at this
  have := Array.all_eq_true_iff_forall_mem.1 this.2 y hy
  subst ht
  simpa using this
theorem gd_wanted {c : Cx} {D : Nat → Prop} {ops : Array Oper} {s : FS} {a : Act} {w : World} (hs : slotsOk c.n ops = true) (h : RelD c D s a w) {o : Oper} {b : Bool} (hg : gd ops s o = some b) : Region.wanted o (yielded ops a.tmps) = b := by
  unfold gd at hg
  unfold Region.wanted
  split at hg
  · rename_i e
    rw [e]
    exact Option.some.inj hg
  · rename_i j d e
    rw [e]
    split at hg
    · rename_i t ht
      split at hg
      · rename_i b' hb
        obtain rfl := Option.some.inj hg
        cases hj : ops[j]? with
        | none => rw [hj] at ht; cases ht
        | some oj =>
          rw [hj] at ht
          have hlt := slotsOk_dst hs hj ht
          rw [← h.size] at hlt
          have hv := h.tm t a.tmps[t] (Array.getElem?_eq_getElem hlt)
          rw [hb] at hv
          generalize hvv : a.tmps[t] = v at hv
          cases hv
          have : yielded ops a.tmps j = some b' := by
            unfold yielded
            rw [hj]
            have h1 : a.tmps[t]? = some (.bool b') := by rw [Array.getElem?_eq_getElem hlt, hvv]
            have h2 : oj.dst = some t := ht
            simp [h1, h2]
          simp [this]
      · rename_i vs hb
        obtain rfl := Option.some.inj hg
        cases hj : ops[j]? with
        | none => rw [hj] at ht; cases ht
        | some oj =>
          rw [hj] at ht
          have hlt := slotsOk_dst hs hj ht
          rw [← h.size] at hlt
          have hv := h.tm t a.tmps[t] (Array.getElem?_eq_getElem hlt)
          rw [hb] at hv
          generalize hvv : a.tmps[t] = v at hv
          cases hv
          have : yielded ops a.tmps j = none := by
            unfold yielded
            rw [hj]
            have h1 : a.tmps[t]? = some (.tuple vs) := by rw [Array.getElem?_eq_getElem hlt, hvv]
            have h2 : oj.dst = some t := ht
            simp [h1, h2]
          simp [this]
      · cases hg
    · cases hg
theorem put_addB (s : FS) (d : Option Tmp) (x : AV) (nb : Option (Nat × Bx)) : (s.addB nb).put d x = (s.put d x).addB nb := by
  cases d <;> rcases nb with _ | ⟨id, y⟩ <;> rfl
theorem put_setB (s : FS) (d : Option Tmp) (x : AV) (id : Nat) (y : Option Bx) : (s.setB id y).put d x = (s.put d x).setB id y := by
  cases d <;> rfl
theorem put_comm (s : FS) (d e : Option Tmp) (x y : AV) (h : ∀ t, d = some t → e ≠ some t) : (s.put d x).put e y = (s.put e y).put d x := by
  cases d with
  | none => cases e <;> rfl
  | some d =>
    cases e with
    | none => rfl
    | some e =>
      have hne : d ≠ e := fun he => h d rfl (by rw [he])
      simp only [FS.put, FS.mk.injEq, and_true]
      funext t
      by_cases h1 : t = e
      · have : t ≠ d := fun h2 => hne (h2.symm.trans h1)
        subst h1
        simp [this]
      · simp [h1]
theorem StepR.sound {c : Cx} {P : Program} {ops : Array Oper} {i : Nat} {s : FS} {K : FS → Prop} {a : Act} {w : World} {Q : Exit → Act → World → Prop} (hs : slotsOk c.n ops = true) (h : StepR P ops i s K) (hr : Rel c s a w) :
    wpOp P ops Q i (fun a' w' => ∃ s', K s' ∧ Rel c s' a' w') a w := by
  obtain ⟨o, ho, h⟩ := h
  obtain ⟨hc, D, hR⟩ := hr
  have hops : opsR D w s a.eval o := fun y hy => hR.ev y (slotsOk_op hs ho hy)
  unfold wpOp
  simp only [ho]
  rcases h with ⟨h1, h2⟩ | ⟨h1, h | ⟨h2, Out, h3, h4⟩ | ⟨h2, h3, id, Out, h4, h5⟩⟩
  · rw [if_neg (by rw [gd_wanted hs hR h1]; simp)]
    exact ⟨_, h2, hc, D, hR.put _ (.val _)⟩
  · obtain ⟨x, hx, h2⟩ := h
    rw [if_pos (gd_wanted hs hR h1)]
    left
    have : ∃ v, (execOp a.eval o).run P w = .ok (.value v) w ∧ Ra D w x v := by
      rcases hx with hx | ⟨_, hx⟩
      · exact hx D w _ hops
      · exact hx D w _ hops hR.boxes
    obtain ⟨v, hv, hxv⟩ := this
    unfold Oper.wp
    rw [hv, Oper.upon_value]
    exact ⟨_, h2, hc, D, hR.put _ hxv⟩
  · rw [if_pos (gd_wanted hs hR h1)]
    left
    refine h3 D w a Q _ hR.dlt hops hR.boxes (fun v w' x nb D' hO hb hD hD' hv hnb => ?_)
    obtain ⟨hf, hk⟩ := h4 x nb hO
    refine ⟨_, hk, Nat.le_trans hc hb.size, D', ?_⟩
    rw [← put_addB]
    exact (hR.grow hc hb hD hD' nb (fun id y hy => ⟨hf id y hy, hnb id y hy⟩)).put _ hv
  · rw [if_pos (gd_wanted hs hR h1)]
    left
    refine h4 D w a Q _ hR.dlt hops hR.boxes (fun y g hy hg => ((hR.bx id y hy).1 g hg).2) (fun v w' x y y' D' hO hy h0 hk hDD hD' hb hB hv => ?_)
    refine ⟨_, h5 x y' hO, Nat.le_trans hc h0.size, D', ?_⟩
    rw [← put_setB]
    exact (hR.mutF hc id y y' hy h0 hk hDD hD' hb hB).put _ hv
def aAny (P : Program) (ops : Array Oper) (K : FS → Prop) : Nat → Array Bool → FS → Prop
  | 0, l, s => Region.ready .any ops l = [] ∧ K s
  | f + 1, l, s => (Region.ready .any ops l = [] → K s) ∧ ∀ i ∈ Region.ready .any ops l, StepR P ops i s (aAny P ops K f (l.setIfInBounds i true))
theorem aAny_sound {c : Cx} {P : Program} {ops : Array Oper} {K : FS → Prop} {Q : Exit → Act → World → Prop} (hs : slotsOk c.n ops = true) (hQ : ∀ s a w, K s → Rel c s a w → Q .normal a w) :
    ∀ (f : Nat) (l : Array Bool) (s : FS) (a : Act) (w : World), aAny P ops K f l s → Rel c s a w → wpAny P .any ops Q f l a w
  | 0, l, s, a, w, h, hr => ⟨h.1, hQ _ _ _ h.2 hr⟩
  | f + 1, l, s, a, w, h, hr => ⟨fun he => hQ _ _ _ (h.1 he) hr, fun i hi => wpOp_mono (fun a' w' ⟨s', h', hr'⟩ => aAny_sound hs hQ f _ s' a' w' h' hr') ((h.2 i hi).sound hs hr)⟩
def Yld (P : Program) (ops : Array Oper) (o : Oper) (s : FS) (x : AV) : Prop :=
  (gd ops s o = some false ∧ x = .val undef) ∨ (gd ops s o = some true ∧ (PureOK P o s x ∨ (isLd o.op = true ∧ ReadOK P o s x)))
theorem ev_put {ops : Array Oper} {o : Oper} {s : FS} {d : Option Tmp} {x : AV} (h : ∀ t, d = some t → t ∉ o.looksAt ops) {y : Operand} (hy : y ∈ o.op.operands) : (s.put d x).ev y = s.ev y := by
  cases d with
  | none => rfl
  | some d =>
    cases y with
    | tmp t =>
      have hne : t ≠ d := fun e => h d rfl (by
        subst e
        exact List.mem_append_left _ (List.mem_filterMap.2 ⟨.tmp t, by simpa using hy, rfl⟩))
      simp [FS.ev, FS.put, hne]
    | _ => rfl
theorem gd_put {ops : Array Oper} {o : Oper} {s : FS} {d : Option Tmp} {x : AV} (h : ∀ t, d = some t → t ∉ o.looksAt ops) : gd ops (s.put d x) o = gd ops s o := by
  cases d with
  | none => rfl
  | some d =>
    unfold gd
    cases hg : o.guard with
    | none => rfl
    | some gw =>
      obtain ⟨g, want⟩ := gw
      simp only
      cases ht : (ops[g]?).bind (·.dst) with
      | none => rfl
      | some t =>
        have hne : t ≠ d := fun e => h d rfl (by subst e; simp [Oper.looksAt, hg, ht])
        simp [FS.put, hne]
theorem opsR_put {ops : Array Oper} {D : Nat → Prop} {w : World} {o : Oper} {s : FS} {d : Option Tmp} {x : AV} {ρ : Operand → Value} (h : ∀ t, d = some t → t ∉ o.looksAt ops) : opsR D w (s.put d x) ρ o ↔ opsR D w s ρ o := by
  unfold opsR
  constructor
  · intro hh y hy
    have := hh y hy
    rwa [ev_put h hy] at this
  · intro hh y hy
    rw [ev_put h hy]
    exact hh y hy
theorem bx_put (s : FS) (d : Option Tmp) (x : AV) : (s.put d x).bx = s.bx := by cases d <;> rfl
theorem gd_tm {ops : Array Oper} {o : Oper} {s s' : FS} (h : s'.tm = s.tm) : gd ops s' o = gd ops s o := by unfold gd; rw [h]
theorem opsR_tm {D : Nat → Prop} {w : World} {o : Oper} {s s' : FS} {ρ : Operand → Value} (h : s'.tm = s.tm) : opsR D w s' ρ o ↔ opsR D w s ρ o := by
  have : ∀ y, s'.ev y = s.ev y := fun y => by cases y <;> simp [FS.ev, h]
  unfold opsR
  simp only [this]
theorem PureOK.put {P : Program} {ops : Array Oper} {o : Oper} {s : FS} {d : Option Tmp} {x u : AV} (h : ∀ t, d = some t → t ∉ o.looksAt ops) : PureOK P o (s.put d u) x ↔ PureOK P o s x :=
  ⟨fun hh D w ρ ho => hh D w ρ ((opsR_put h).2 ho), fun hh D w ρ ho => hh D w ρ ((opsR_put h).1 ho)⟩
theorem ReadOK.put {P : Program} {ops : Array Oper} {o : Oper} {s : FS} {d : Option Tmp} {x u : AV} (h : ∀ t, d = some t → t ∉ o.looksAt ops) : ReadOK P o (s.put d u) x ↔ ReadOK P o s x := by
  unfold ReadOK
  simp only [opsR_put h, bx_put]
theorem MonoOK.put {P : Program} {ops : Array Oper} {o : Oper} {s : FS} {d : Option Tmp} {u : AV} {Out : AV → Option (Nat × Bx) → Prop} (h : ∀ t, d = some t → t ∉ o.looksAt ops) : MonoOK P o (s.put d u) Out ↔ MonoOK P o s Out := by
  unfold MonoOK
  simp only [opsR_put h, bx_put]
theorem MutF.put {P : Program} {ops : Array Oper} {o : Oper} {s : FS} {d : Option Tmp} {u : AV} {id : Nat} {Out : AV → Bx → Prop} (h : ∀ t, d = some t → t ∉ o.looksAt ops) : MutF P o (s.put d u) id Out ↔ MutF P o s id Out := by
  unfold MutF
  simp only [opsR_put h, bx_put]
theorem Yld.put {P : Program} {ops : Array Oper} {o : Oper} {s : FS} {d : Option Tmp} {x u : AV} (h : ∀ t, d = some t → t ∉ o.looksAt ops) (hy : Yld P ops o s x) : Yld P ops o (s.put d u) x := by
  unfold Yld
  rw [gd_put h, PureOK.put h, ReadOK.put h]
  exact hy
theorem Yld.more {P : Program} {ops : Array Oper} {o : Oper} {s s' : FS} {x : AV} (ht : s'.tm = s.tm) (hb : isLd o.op = true → ∀ id y, s.bx id = some y → s'.bx id = some y) (hy : Yld P ops o s x) : Yld P ops o s' x := by
  unfold Yld at hy ⊢
  rw [gd_tm ht]
  rcases hy with h | ⟨h1, h | ⟨h2, h⟩⟩
  · exact .inl h
  · exact .inr ⟨h1, .inl fun D w ρ ho => h D w ρ ((opsR_tm ht).1 ho)⟩
  · exact .inr ⟨h1, .inr ⟨h2, fun D w ρ ho hbx => h D w ρ ((opsR_tm ht).1 ho) (fun id y hy => hbx id y (hb h2 id y hy))⟩⟩
theorem step_put {P : Program} {ops : Array Oper} {j : Nat} {oi oj : Oper} {x : AV} {s : FS} {K : FS → Prop} (hj : ops[j]? = some oj) (hap : oi.apart ops oj = true) (hm : isLd oi.op = true → isMut oj.op = false)
    (hy : Yld P ops oi s x) (h : StepR P ops j (s.put oi.dst x) K) : StepR P ops j s (fun s' => Yld P ops oi s' x ∧ K (s'.put oi.dst x)) := by
  obtain ⟨h1, h2, h3⟩ := Oper.apart_spec hap
  obtain ⟨o, ho, h⟩ := h
  obtain rfl : oj = o := Option.some.inj (hj.symm.trans ho)
  refine ⟨oj, hj, ?_⟩
  rw [gd_put h1] at h
  rcases h with ⟨g, hk⟩ | ⟨g, h | ⟨g2, Out, g3, g4⟩ | ⟨g2, g3, id, Out, g4, g5⟩⟩
  · refine .inl ⟨g, hy.put h3, ?_⟩
    rw [put_comm _ _ _ _ _ h2] at hk
    exact hk
  · obtain ⟨xj, hx, hk⟩ := h
    rw [PureOK.put h1, ReadOK.put h1] at hx
    refine .inr ⟨g, .inl ⟨xj, hx, hy.put h3, ?_⟩⟩
    rw [put_comm _ _ _ _ _ h2] at hk
    exact hk
  · rw [MonoOK.put h1] at g3
    refine .inr ⟨g, .inr (.inl ⟨g2, Out, g3, fun y nb hO => ?_⟩)⟩
    obtain ⟨hf, hk⟩ := g4 y nb hO
    rw [bx_put] at hf
    refine ⟨hf, ?_, ?_⟩
    · refine Yld.more (s := s.put oj.dst y) ?_ ?_ (hy.put h3)
      · rcases nb with _ | ⟨id, z⟩ <;> rfl
      · intro _ id z hz
        rcases nb with _ | ⟨id', z'⟩
        · exact hz
        · have := hf id' z' rfl
          simp only [FS.addB, FS.setB]
          split
          · rename_i e
            rw [bx_put, e, this] at hz
            cases hz
          · exact hz
    · rw [put_addB, ← put_comm _ _ _ _ _ h2]
      exact hk
  · rw [MutF.put h1] at g4
    refine .inr ⟨g, .inr (.inr ⟨g2, g3, id, Out, g4, fun y z hO => ⟨?_, ?_⟩⟩)⟩
    · refine Yld.more (s := s.put oj.dst y) rfl ?_ (hy.put h3)
      intro hl
      rw [hm hl] at g3
      cases g3
    · rw [put_setB, ← put_comm _ _ _ _ _ h2]
      exact g5 y z hO
def blkA (ops : Array Oper) (l : Array Bool) (i : Nat) : Nat → Nat → Bool
  | 0, _ => false
  | n + 1, j =>
    match ops[j]? with
    | some oj => oj.after.any fun e => Region.binds .any e && (e.on == i || (!l.getD e.on true && blkA ops l i n e.on))
    | none => false
theorem done_not {l : Array Bool} {k : Nat} (h : l.getD k false = true) : l.getD k true = true := by
  rcases Nat.lt_or_ge k l.size with h' | h'
  · simp [h'] at h ⊢; exact h
  · simp [Array.getElem?_eq_none h'] at h
theorem blkA_ready {ops : Array Oper} {l : Array Bool} {i j : Nat} (hi : l.getD i true = false) (hj : j ∈ Region.ready .any ops l) : ∀ n, blkA ops l i n j = false
  | 0 => rfl
  | n + 1 => by
    obtain ⟨_, o, ho, hall⟩ := mem_ready.1 hj
    unfold blkA
    rw [ho]
    refine Bool.eq_false_iff.2 fun h => ?_
    obtain ⟨e, he, hb⟩ := Array.any_eq_true'.1 h
    simp only [Bool.and_eq_true, Bool.or_eq_true, beq_iff_eq, Bool.not_eq_true'] at hb
    have hd := done_not (hall e he hb.1)
    rcases hb.2 with h2 | h2
    · rw [h2, hi] at hd; cases hd
    · rw [h2.1] at hd; cases hd
theorem blkA_more {ops : Array Oper} {l : Array Bool} {i k : Nat} (hi : l.getD i true = false) (hk : k ∈ Region.ready .any ops l) : ∀ n j, blkA ops l i n j = true → blkA ops (l.setIfInBounds k true) i n j = true
  | 0, _, h => by cases h
  | n + 1, j, h => by
    unfold blkA at h ⊢
    split at h
    · rename_i o ho
      obtain ⟨e, he, hb⟩ := Array.any_eq_true'.1 h
      refine Array.any_eq_true'.2 ⟨e, he, ?_⟩
      simp only [Bool.and_eq_true, Bool.or_eq_true, beq_iff_eq, Bool.not_eq_true'] at hb ⊢
      refine ⟨hb.1, hb.2.imp (fun h => h) fun h2 => ⟨?_, blkA_more hi hk n e.on h2.2⟩⟩
      have hne : k ≠ e.on := fun hh => by
        have := blkA_ready hi hk n
        rw [hh, h2.2] at this
        cases this
      rw [getD_set_ne true hne]
      exact h2.1
    · cases h
theorem aAny_first {P : Program} {ops : Array Oper} {K : FS → Prop} {i : Nat} {oi : Oper} {x : AV} (hi : ops[i]? = some oi) :
    ∀ (fuel : Nat) (l : Array Bool) (s : FS),
      (∀ j oj, ops[j]? = some oj → j ≠ i → l.getD j true = false → (∀ n, blkA ops l i n j = false) → oi.apart ops oj = true ∧ (isLd oi.op = true → isMut oj.op = false)) →
      i ∈ Region.ready .any ops l → Yld P ops oi s x → aAny P ops K fuel (l.setIfInBounds i true) (s.put oi.dst x) → aAny P ops K (fuel + 1) l s := by
  have own : ∀ (s : FS) (K' : FS → Prop), Yld P ops oi s x → K' (s.put oi.dst x) → StepR P ops i s K' := fun s K' hy hk => by
    refine ⟨oi, hi, ?_⟩
    rcases hy with ⟨h, rfl⟩ | ⟨h1, h2⟩
    · exact .inl ⟨h, hk⟩
    · exact .inr ⟨h1, .inl ⟨x, h2, hk⟩⟩
  intro fuel
  induction fuel with
  | zero =>
    intro l s _ hr hy H
    refine ⟨fun h => (by rw [h] at hr; cases hr), fun j hj => ?_⟩
    by_cases hji : j = i
    · subst hji; exact own s _ hy H
    · have := ready_mono hj hji
      rw [H.1] at this
      cases this
  | succ fuel ih =>
    intro l s hfree hr hy H
    refine ⟨fun h => (by rw [h] at hr; cases hr), fun j hj => ?_⟩
    by_cases hji : j = i
    · subst hji; exact own s _ hy H
    · have h1 := H.2 j (ready_mono hj hji)
      obtain ⟨hjun, oj, hoj, hall⟩ := mem_ready.1 hj
      have hipe := (mem_ready.1 hr).1
      have hnot : ∀ n, blkA ops l i n j = false := blkA_ready hipe hj
      obtain ⟨hap, hm⟩ := hfree j oj hoj hji hjun hnot
      have hfree' : ∀ k ok, ops[k]? = some ok → k ≠ i → (l.setIfInBounds j true).getD k true = false →
          (∀ n, blkA ops (l.setIfInBounds j true) i n k = false) → oi.apart ops ok = true ∧ (isLd oi.op = true → isMut ok.op = false) := fun k ok hk hki hun hno => by
        refine hfree k ok hk hki ?_ (fun n => Bool.eq_false_iff.2 fun h => by have := blkA_more hipe hj n k h; rw [hno n] at this; cases this)
        by_cases hjk : j = k
        · subst hjk; exact hjun
        · rw [getD_set_ne true hjk] at hun; exact hun
      refine (step_put hoj hap hm hy h1).mono (fun s' h3 => ih (l.setIfInBounds j true) s' hfree' (ready_mono hr (Ne.symm hji)) h3.1 ?_)
      rw [Array.setIfInBounds_comm _ _ hji]
      exact h3.2
def SeqR (P : Program) (ops : Array Oper) (K : FS → Prop) : List Nat → FS → Prop
  | [], s => K s
  | i :: r, s => StepR P ops i s (SeqR P ops K r)
def freeA (P : Program) (ops : Array Oper) (l : Array Bool) (i : Nat) : Bool :=
  match ops[i]? with
  | none => false
  | some oi => isRd P oi.op && (List.range ops.size).all fun j => j == i || l.getD j true || match ops[j]? with
      | some oj => blkA ops l i ops.size j || (oi.apart ops oj && (!isLd oi.op || !isMut oj.op))
      | none => true
def okOrd (P : Program) (ops : Array Oper) : List Nat → Array Bool → Bool
  | [], l => (Region.ready .any ops l).isEmpty
  | i :: r, l => ((freeA P ops l i && (Region.ready .any ops l).contains i) || Region.ready .any ops l == [i]) && okOrd P ops r (l.setIfInBounds i true)
theorem okOrd_any {P : Program} {ops : Array Oper} {K : FS → Prop} : ∀ (r : List Nat) (l : Array Bool) (s : FS), okOrd P ops r l = true → SeqR P ops K r s → aAny P ops K r.length l s
  | [], l, s, h, hs => ⟨by simpa [okOrd] using h, hs⟩
  | i :: r, l, s, h, hs => by
    simp only [okOrd, Bool.and_eq_true, Bool.or_eq_true] at h
    obtain ⟨h1, h2⟩ := h
    rcases h1 with ⟨hf, hr⟩ | hr
    · unfold freeA at hf
      split at hf
      · cases hf
      · rename_i oi hi
        simp only [Bool.and_eq_true, List.all_eq_true, List.mem_range] at hf
        obtain ⟨hrd, hf⟩ := hf
        obtain ⟨o, ho, hst⟩ := hs
        obtain rfl : oi = o := Option.some.inj (hi.symm.trans ho)
        have hfree : ∀ j oj, ops[j]? = some oj → j ≠ i → l.getD j true = false → (∀ n, blkA ops l i n j = false) → oi.apart ops oj = true ∧ (isLd oi.op = true → isMut oj.op = false) := by
          intro j oj hj hne hun hno
          have h3 := hf j (Array.getElem?_eq_some_iff.1 hj).1
          simp only [hj, Bool.or_eq_true, beq_iff_eq, hne, false_or, hun, Bool.false_eq_true, Bool.and_eq_true, Bool.not_eq_true'] at h3
          rcases h3 with h3 | ⟨h3, h4⟩
          · rw [hno ops.size] at h3; cases h3
          · refine ⟨h3, fun hl => ?_⟩
            rcases h4 with h4 | h4
            · rw [hl] at h4; cases h4
            · exact h4
        have key : ∃ x, Yld P ops oi s x ∧ SeqR P ops K r (s.put oi.dst x) := by
          rcases hst with ⟨g, hk⟩ | ⟨g, ⟨x, hx, hk⟩ | ⟨g2, _⟩ | ⟨g2, _⟩⟩
          · exact ⟨.val undef, .inl ⟨g, rfl⟩, hk⟩
          · exact ⟨x, .inr ⟨g, hx⟩, hk⟩
          · rw [hrd] at g2; cases g2
          · rw [hrd] at g2; cases g2
        obtain ⟨x, hy, hk⟩ := key
        exact aAny_first hi r.length l s hfree (by simpa using hr) hy (okOrd_any r _ _ h2 hk)
    · have hr' : Region.ready .any ops l = [i] := by simpa using hr
      refine ⟨fun h => (by rw [h] at hr'; cases hr'), fun j hj => ?_⟩
      rw [hr'] at hj
      obtain rfl : j = i := by simpa using hj
      exact hs.mono fun s' h' => okOrd_any r _ s' h2 h'
end Copyhold
