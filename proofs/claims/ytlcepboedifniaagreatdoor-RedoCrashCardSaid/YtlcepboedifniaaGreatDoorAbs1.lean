/- Abstract values and states over any program: what a function's slots and boxes hold, its data apart from memory; how they stand while worlds go on. No conditions beyond each law's own. -/
import Derived.Test.YtlcepboedifniaaGreatDoorMrgA
import Derived.Orders
set_option linter.unusedVariables false
namespace Copyhold
open Go Go.RowKit
inductive MK where
  | i (z : Int)
  | s (l : List UInt8)
  deriving DecidableEq
def MK.val : MK → Value
  | .i z => .int .i64 z
  | .s l => .string ⟨⟨l⟩⟩
inductive AV where
  | val (v : Value)
  | any
  | sl (k : Nat) (t : Bool) (xs : List (List AV))
  | agg (cs : List AV)
  | dptr (cs : List AV)
  | tup (l : List AV)
  | ptr (id b off : Nat)
  | rw (id : Nat) (V : Value) (n : Nat)
  | ep (id : Nat) (V : Value) (k i off : Nat)
  | clo (f : FuncId) (caps : List AV)
  | mp (es : List (MK × AV))
  | mref (id r : Nat)
  | pre (k : Nat) (xs : List (List AV)) (i : Nat)
  | rs (id : Nat) (V : Value) (k lo : Nat)
def Born (es : Array MapEntry) (clock : Nat) : Prop := (∀ x ∈ es.toList, x.born < clock) ∧ (es.toList.map (·.born)).Nodup
theorem born_empty (clock : Nat) : Born #[] clock := ⟨by simp, by simp⟩
theorem born_push {es : Array MapEntry} {clock : Nat} (h : Born es clock) (k v : Value) : Born (es.push { key := k, val := v, born := clock }) (clock + 1) := by
  refine ⟨fun x hx => ?_, ?_⟩
  · simp only [Array.toList_push, List.mem_append, List.mem_singleton] at hx
    rcases hx with hx | rfl
    · have := h.1 x hx; omega
    · exact Nat.lt_succ_self _
  · simp only [Array.toList_push, List.map_append, List.map_cons, List.map_nil]
    rw [List.nodup_append]
    refine ⟨h.2, by simp, fun a ha b hb => ?_⟩
    obtain ⟨x, hx, rfl⟩ := List.mem_map.1 ha
    obtain rfl := List.mem_singleton.1 hb
    have := h.1 x hx
    exact Nat.ne_of_lt this
inductive Ra (D : Nat → Prop) (w : World) : AV → Value → Prop
  | val (v : Value) : Ra D w (.val v) v
  | any (v : Value) : Ra D w .any v
  | sl (k : Nat) (t : Bool) (xs : List (List AV)) (A : Option Addr) (c b off : Nat) (vs : Nat → Nat → Value) :
      xs.length ≤ c → (t = true → c = xs.length) → (0 < xs.length → A = some ⟨b, off, none⟩ ∧ D b ∧ b < w.heap.size) →
      (∀ (i : Nat) (e : List AV), xs[i]? = some e → e.length = k) →
      (∀ (i : Nat) (e : List AV) (j : Nat) (x : AV), xs[i]? = some e → e[j]? = some x → w.cell? ⟨b, off + (i * k + j), none⟩ = some (vs i j) ∧ (vs i j).oneCell' = true) →
      (∀ (i : Nat) (e : List AV) (j : Nat) (x : AV), xs[i]? = some e → e[j]? = some x → Ra D w x (vs i j)) → Ra D w (.sl k t xs) (.slice A xs.length c)
  | agg (cs : List AV) (vs : Array Value) : cs.length = vs.size → (∀ (j : Nat) (v : Value), vs[j]? = some v → v.oneCell' = true) →
      (∀ (j : Nat) (x : AV) (v : Value), cs[j]? = some x → vs[j]? = some v → Ra D w x v) → Ra D w (.agg cs) (.agg vs)
  | dptr (cs : List AV) (b off : Nat) (vs : Nat → Value) : D b → b < w.heap.size →
      (∀ (j : Nat) (x : AV), cs[j]? = some x → w.cell? ⟨b, off + j, none⟩ = some (vs j) ∧ (vs j).oneCell' = true) →
      (∀ (j : Nat) (x : AV), cs[j]? = some x → Ra D w x (vs j)) → Ra D w (.dptr cs) (.pointer (some ⟨b, off, none⟩))
  | tup (l : List AV) (vs : Array Value) : l.length = vs.size → (∀ (j : Nat) (x : AV) (v : Value), l[j]? = some x → vs[j]? = some v → Ra D w x v) → Ra D w (.tup l) (.tuple vs)
  | ptr (id b off : Nat) : Ra D w (.ptr id b off) (.pointer (some ⟨b, off, none⟩))
  | rw (id n c : Nat) (A : Option Addr) : Ra D w (.rw id (.slice A n c) n) (.slice A n c)
  | ep (id b n cap k i off : Nat) : Ra D w (.ep id (.slice (some ⟨b, 0, none⟩) n cap) k i off) (.pointer (some ⟨b, i * k + off, none⟩))
  | clo (f : FuncId) (caps : List AV) (vs : Array Value) : caps.length = vs.size → (∀ (j : Nat) (x : AV) (v : Value), caps[j]? = some x → vs[j]? = some v → Ra D w x v) → Ra D w (.clo f caps) (.func (.func f) #[] vs)
  | mp (es : List (MK × AV)) (r : Nat) (es' : Array MapEntry) (clock : Nat) : D r → r < w.heap.size → w.heap[r]? = some (.map es' clock) → (es.length = es'.size ∧ Born es' clock) →
      (∀ (j : Nat) (p : MK × AV) (e : MapEntry), es[j]? = some p → es'[j]? = some e → e.key = p.1.val) →
      (∀ (j : Nat) (p : MK × AV) (e : MapEntry), es[j]? = some p → es'[j]? = some e → Ra D w p.2 e.val) → Ra D w (.mp es) (.map (some r))
  | mref (id r : Nat) : Ra D w (.mref id r) (.map (some r))
  | pre (k : Nat) (xs : List (List AV)) (i : Nat) (A : Option Addr) (c : Nat) : Ra D w (.sl k true xs) (.slice A xs.length c) → i ≤ xs.length → Ra D w (.pre k xs i) (.slice A i c)
  | rs (id b n cap k lo : Nat) : lo < n → Ra D w (.rs id (.slice (some ⟨b, 0, none⟩) n cap) k lo) (.slice (some ⟨b, lo * k, none⟩) (n - lo) (cap - lo))
theorem Ra.frame {D D' : Nat → Prop} {w w' : World} {x : AV} {v : Value} (h : Ra D w x v) (hD : ∀ b, D b → D' b) (hs : w.heap.size ≤ w'.heap.size)
    (hk : ∀ b, D b → b < w.heap.size → w'.heap[b]? = w.heap[b]?) : Ra D' w' x v := by
  induction h with
  | val v => exact .val v
  | any v => exact .any v
  | sl k t xs A c b off vs h1 h2 h3 h4 h5 h6 ih =>
    by_cases h0 : 0 < xs.length
    · obtain ⟨hA, hDb, hb⟩ := h3 h0
      exact .sl k t xs A c b off vs h1 h2 (fun _ => ⟨hA, hD b hDb, Nat.lt_of_lt_of_le hb hs⟩) h4
        (fun i e j x he hx => ⟨(World.cell?_of_block (hk b hDb hb)).trans (h5 i e j x he hx).1, (h5 i e j x he hx).2⟩) ih
    · have hx : xs = [] := List.eq_nil_of_length_eq_zero (by omega)
      subst hx
      exact .sl k t [] A c b off vs h1 h2 (fun h => absurd h h0) (fun i e h => by simp at h) (fun i e j x h => by simp at h) (fun i e j x h => by simp at h)
  | agg cs vs h1 h2 h3 ih => exact .agg cs vs h1 h2 ih
  | dptr cs b off vs h1 h2 h3 h4 ih =>
    exact .dptr cs b off vs (hD b h1) (Nat.lt_of_lt_of_le h2 hs) (fun j x hx => ⟨(World.cell?_of_block (hk b h1 h2)).trans (h3 j x hx).1, (h3 j x hx).2⟩) ih
  | tup l vs h1 h2 ih => exact .tup l vs h1 ih
  | ptr id b off => exact .ptr id b off
  | rw id n c A => exact .rw id n c A
  | ep id b n cap k i off => exact .ep id b n cap k i off
  | clo f caps vs h1 h2 ih => exact .clo f caps vs h1 ih
  | mp es r es' clock h1 h2 h3 h4 h5 h6 ih => exact .mp es r es' clock (hD r h1) (Nat.lt_of_lt_of_le h2 hs) ((hk r h1 h2).trans h3) h4 h5 ih
  | mref id r => exact .mref id r
  | pre k xs i A c h1 h2 ih => exact .pre k xs i A c ih h2
  | rs id b n cap k lo h => exact .rs id b n cap k lo h
inductive Bx where
  | box (b : Nat) (T : TypeId) (cs : List AV)
  | row (V : Value) (e : TypeId) (k : Nat) (xs : List (List AV))
  | mp (r : Nat) (es : List (MK × AV))
  | iter (b : Nat) (es : List (MK × AV)) (seen : List Nat)
def Bx.blk : Bx → Option Nat
  | .box b _ _ => some b
  | .row V _ _ _ => V.ownBlock
  | .mp r _ => some r
  | .iter b _ _ => some b
def BoxR (D : Nat → Prop) (w : World) : Bx → Prop
  | .box b T cs => ∃ vs : Array Value, TBox w b T vs ∧ vs.size = cs.length ∧ (∀ (j : Nat) (v : Value), vs[j]? = some v → v.oneCell' = true) ∧ ∀ (j : Nat) (a : AV) (v : Value), cs[j]? = some a → vs[j]? = some v → Ra D w a v
  | .row V e k xs => (∀ l ∈ xs, l.length = k) ∧ ∃ us : List Value, w.ownsRow 0 e k V xs.length us ∧ (∀ u ∈ us, u.oneCell' = true) ∧ ∀ (j : Nat) (a : AV) (u : Value), xs.flatten[j]? = some a → us[j]? = some u → Ra D w a u
  | .mp r es => ∃ (es' : Array MapEntry) (clock : Nat), w.heap[r]? = some (.map es' clock) ∧ (es.length = es'.size ∧ Born es' clock) ∧ (∀ (j : Nat) (p : MK × AV) (e : MapEntry), es[j]? = some p → es'[j]? = some e → e.key = p.1.val) ∧
      ∀ (j : Nat) (p : MK × AV) (e : MapEntry), es[j]? = some p → es'[j]? = some e → Ra D w p.2 e.val
  | .iter b es seen => ∃ (r : Nat) (es' : Array MapEntry) (clock : Nat) (sn : Array Nat), w.heap[b]? = some (.mapIter (some r) clock sn clock) ∧ D r ∧ r < w.heap.size ∧ w.heap[r]? = some (.map es' clock) ∧ (es.length = es'.size ∧ Born es' clock) ∧
      (∀ (j : Nat) (p : MK × AV) (e : MapEntry), es[j]? = some p → es'[j]? = some e → e.key = p.1.val) ∧ (∀ (j : Nat) (p : MK × AV) (e : MapEntry), es[j]? = some p → es'[j]? = some e → Ra D w p.2 e.val) ∧
      (∀ (j : Nat) (e : MapEntry), es'[j]? = some e → (sn.contains e.born = true ↔ j ∈ seen)) ∧ ∀ j, seen.head? = some j → ∃ e, es'[j]? = some e ∧ sn.back? = some e.born
theorem owns_block_same {w w' : World} {e : TypeId} {k n : Nat} {V : Value} {us : List Value} (h : w.ownsRow 0 e k V n us) (hb : ∀ g, V.ownBlock = some g → w'.heap[g]? = w.heap[g]?) : w'.ownsRow 0 e k V n us := by
  refine ⟨h.1, ?_⟩
  rcases h.2 with h' | ⟨g, cap, cur, rfl, hg, hgg, r⟩
  · exact .inl h'
  · exact .inr ⟨g, cap, cur, rfl, hg, by rw [hb g rfl]; exact hgg, r⟩
theorem owns_lt {w : World} {e : TypeId} {k n : Nat} {V : Value} {us : List Value} (h : w.ownsRow 0 e k V n us) {g : Nat} (hg : V.ownBlock = some g) : g < w.heap.size := (own_block_ge h g hg).2
theorem BoxR.frame {D D' : Nat → Prop} {w w' : World} {x : Bx} (h : BoxR D w x) (hD : ∀ b, D b → D' b) (hs : w.heap.size ≤ w'.heap.size)
    (hk : ∀ b, D b → b < w.heap.size → w'.heap[b]? = w.heap[b]?) (hx : ∀ g, x.blk = some g → w'.heap[g]? = w.heap[g]?) : BoxR D' w' x := by
  cases x with
  | box b T cs =>
    obtain ⟨vs, h1, h2, h3, h4⟩ := h
    exact ⟨vs, (hx b rfl).trans h1, h2, h3, fun j a v ha hv => (h4 j a v ha hv).frame hD hs hk⟩
  | row V e k xs =>
    obtain ⟨h0, us, h1, h2, h3⟩ := h
    exact ⟨h0, us, owns_block_same h1 hx, h2, fun j a v ha hv => (h3 j a v ha hv).frame hD hs hk⟩
  | mp r es =>
    obtain ⟨es', clock, h1, h2, h3, h4⟩ := h
    exact ⟨es', clock, (hx r rfl).trans h1, h2, h3, fun j p e hp he => (h4 j p e hp he).frame hD hs hk⟩
  | iter b es seen =>
    obtain ⟨r, es', clock, sn, h1, h2, h3, h4, h5, h6, h7, h8, h9⟩ := h
    exact ⟨r, es', clock, sn, (hx b rfl).trans h1, hD r h2, Nat.lt_of_lt_of_le h3 hs, (hk r h2 h3).trans h4, h5, h6, fun j p e hp he => (h7 j p e hp he).frame hD hs hk, h8, h9⟩
theorem BoxR.lt {D : Nat → Prop} {w : World} {x : Bx} (h : BoxR D w x) {g : Nat} (hg : x.blk = some g) : g < w.heap.size := by
  cases x with
  | box b T cs =>
    obtain ⟨vs, h1, _⟩ := h
    obtain rfl := Option.some.inj hg
    exact h1.lt
  | row V e k xs =>
    obtain ⟨h0, us, h1, _⟩ := h
    exact owns_lt h1 hg
  | mp r es =>
    obtain ⟨es', clock, h1, _⟩ := h
    obtain rfl := Option.some.inj hg
    exact (Array.getElem?_eq_some_iff.1 h1).1
  | iter b es seen =>
    obtain ⟨r, es', clock, sn, h1, _⟩ := h
    obtain rfl := Option.some.inj hg
    exact (Array.getElem?_eq_some_iff.1 h1).1
structure FS where
  tm : Nat → AV
  bx : Nat → Option Bx
def FS.ev (s : FS) : Operand → AV
  | .tmp t => s.tm t
  | .const v => .val v
  | .global g => .val (.pointer (some ⟨g, 0, none⟩))
  | .func f => .val (.func (.func f) #[] #[])
def FS.put (s : FS) (d : Option Tmp) (x : AV) : FS :=
  match d with
  | some d => { s with tm := fun t => if t = d then x else s.tm t }
  | none => s
def FS.setB (s : FS) (id : Nat) (y : Option Bx) : FS := { s with bx := fun i => if i = id then y else s.bx i }
def FS.addB (s : FS) : Option (Nat × Bx) → FS
  | none => s
  | some (id, y) => s.setB id (some y)
structure Cx where
  base : Nat
  w0 : World
  n : Nat
  D0 : Nat → Prop
  lent : Nat → Prop
def Cx.own (c : Cx) (b : Nat) : Prop := c.base ≤ b ∨ c.lent b
structure BelowL (c : Cx) (w' : World) : Prop where
  os : w'.os = c.w0.os
  tape : w'.tape = c.w0.tape
  output : w'.output = c.w0.output
  size : c.w0.heap.size ≤ w'.heap.size
  block : ∀ k, k < c.base → ¬ c.lent k → w'.heap[k]? = c.w0.heap[k]?
theorem BelowL.grow {c : Cx} {w w' : World} (h : BelowL c w) (hc : c.base ≤ w.heap.size) (hb : Below w.heap.size w w') : BelowL c w' :=
  ⟨hb.os.trans h.os, hb.tape.trans h.tape, hb.output.trans h.output, Nat.le_trans h.size hb.size, fun k hk hl => (hb.block k (by omega)).trans (h.block k hk hl)⟩
theorem BelowL.refl {c : Cx} : BelowL c c.w0 := ⟨rfl, rfl, rfl, Nat.le_refl _, fun _ _ _ => rfl⟩
theorem BelowL.plain {c : Cx} {w : World} (h : BelowL c w) (hl : ∀ k, ¬ c.lent k) : Below c.base c.w0 w := ⟨h.os, h.tape, h.output, h.size, fun k hk => h.block k hk (hl k)⟩
structure RelD (c : Cx) (D : Nat → Prop) (s : FS) (a : Act) (w : World) : Prop where
  defers : a.defers = []
  size : a.tmps.size = c.n
  below : BelowL c w
  dlt : ∀ b, D b → b < w.heap.size
  old : (∀ b, c.D0 b → D b) ∧ ∀ b, D b → c.D0 b ∨ c.own b
  tm : ∀ t v, a.tmps[t]? = some v → Ra D w (s.tm t) v
  bx : ∀ id x, s.bx id = some x → (∀ g, x.blk = some g → c.own g ∧ ¬ D g) ∧ BoxR D w x
  apart : ∀ i j x y, s.bx i = some x → s.bx j = some y → i ≠ j → ∀ g, x.blk = some g → y.blk ≠ some g
def Rel (c : Cx) (s : FS) (a : Act) (w : World) : Prop := c.base ≤ w.heap.size ∧ ∃ D, RelD c D s a w
theorem RelD.ev {c : Cx} {D : Nat → Prop} {s : FS} {a : Act} {w : World} (h : RelD c D s a w) (y : Operand) (hy : ∀ t, y = .tmp t → t < c.n) : Ra D w (s.ev y) (a.eval y) := by
  cases y with
  | tmp t =>
    have ht := hy t rfl
    rw [← h.size] at ht
    have := h.tm t a.tmps[t] (Array.getElem?_eq_getElem ht)
    simpa [FS.ev, Act.eval, ht] using this
  | const v => exact .val v
  | global g => exact .val _
  | func f => exact .val _
theorem RelD.boxes {c : Cx} {D : Nat → Prop} {s : FS} {a : Act} {w : World} (h : RelD c D s a w) : ∀ id x, s.bx id = some x → BoxR D w x := fun id x hx => (h.bx id x hx).2
theorem tmps_put {a : Act} {d : Option Tmp} {v : Value} {t : Nat} {u : Value} (h : (a.put d v).tmps[t]? = some u) : (d = some t ∧ u = v) ∨ (d ≠ some t ∧ a.tmps[t]? = some u) := by
  cases d with
  | none => exact .inr ⟨by simp, h⟩
  | some d =>
    by_cases hd : d = t
    · subst hd
      simp only [Act.put, Array.getElem?_setIfInBounds] at h
      split at h
      · split at h
        · exact .inl ⟨rfl, (Option.some.inj h).symm⟩
        · cases h
      · rename_i hne
        exact absurd trivial hne
    · simp only [Act.put, Array.getElem?_setIfInBounds_ne hd] at h
      exact .inr ⟨by simpa using hd, h⟩
theorem RelD.put {c : Cx} {D : Nat → Prop} {s : FS} {a : Act} {w : World} (h : RelD c D s a w) (d : Option Tmp) {x : AV} {v : Value} (hv : Ra D w x v) : RelD c D (s.put d x) (a.put d v) w := by
  refine ⟨?_, ?_, h.below, h.dlt, h.old, fun t u hu => ?_, ?_, ?_⟩
  · cases d <;> exact h.defers
  · cases d <;> simp [Act.put, h.size]
  · rcases tmps_put hu with ⟨rfl, rfl⟩ | ⟨hd, hu2⟩
    · simpa [FS.put] using hv
    · have := h.tm t u hu2
      cases d with
      | none => exact this
      | some d =>
        have : t ≠ d := fun e => hd (by rw [e])
        simpa [FS.put, this] using h.tm t u hu2
  · cases d <;> exact h.bx
  · cases d <;> exact h.apart
theorem RelD.grow {c : Cx} {D D' : Nat → Prop} {s : FS} {a : Act} {w w' : World} (h : RelD c D s a w) (hc : c.base ≤ w.heap.size) (hb : Below w.heap.size w w') (hD : ∀ b, D b → D' b)
    (hD' : ∀ b, D' b → b < w'.heap.size ∧ (D b ∨ w.heap.size ≤ b)) (nb : Option (Nat × Bx))
    (hnb : ∀ id y, nb = some (id, y) → s.bx id = none ∧ (∀ g, y.blk = some g → w.heap.size ≤ g ∧ ¬ D' g) ∧ BoxR D' w' y) : RelD c D' (s.addB nb) a w' := by
  have hold : ∀ id x, s.bx id = some x → (∀ g, x.blk = some g → c.own g ∧ ¬ D' g) ∧ BoxR D' w' x := fun id x hx => by
    obtain ⟨h1, h3⟩ := h.bx id x hx
    refine ⟨fun g hg => ⟨(h1 g hg).1, fun hd => ?_⟩, h3.frame hD hb.size (fun b _ hl => hb.block b hl) (fun g hg => hb.block _ (h3.lt hg))⟩
    have := h3.lt hg
    rcases (hD' _ hd).2 with h' | h'
    · exact (h1 g hg).2 h'
    · omega
  refine ⟨h.defers, h.size, h.below.grow hc hb, fun b hd => (hD' b hd).1, ⟨fun b hb => hD b (h.old.1 b hb), fun b hb => ?_⟩, ?_, ?_, ?_⟩
  · rcases (hD' b hb).2 with h' | h'
    · exact h.old.2 b h'
    · exact .inr (.inl (Nat.le_trans hc h'))
  · intro t v hv
    have := (h.tm t v hv).frame (w' := w') hD hb.size (fun b _ hl => hb.block b hl)
    rcases nb with _ | ⟨id, y⟩ <;> exact this
  · rcases nb with _ | ⟨id, y⟩
    · exact hold
    · intro i x hx
      simp only [FS.addB, FS.setB] at hx
      split at hx
      · obtain rfl := Option.some.inj hx
        obtain ⟨_, h1, h3⟩ := hnb id y rfl
        exact ⟨fun g hg => ⟨.inl (Nat.le_trans hc (h1 g hg).1), (h1 g hg).2⟩, h3⟩
      · exact hold i x hx
  · rcases nb with _ | ⟨id, y⟩
    · exact h.apart
    · obtain ⟨h0, h1, h3⟩ := hnb id y rfl
      intro i j x x' hx hx' hij g hg hg'
      simp only [FS.addB, FS.setB] at hx hx'
      split at hx <;> split at hx'
      · rename_i e1 e2; exact absurd (e1.trans e2.symm) hij
      · obtain rfl := Option.some.inj hx
        have := (h.bx j x' hx').2.lt hg'
        have := (h1 g hg).1
        omega
      · obtain rfl := Option.some.inj hx'
        have := (h.bx i x hx).2.lt hg
        have := (h1 g hg').1
        omega
      · exact h.apart i j x x' hx hx' hij g hg hg'
theorem RelD.mutF {c : Cx} {D D' : Nat → Prop} {s : FS} {a : Act} {w w' : World} (h : RelD c D s a w) (hc : c.base ≤ w.heap.size) (id : Nat) (y y' : Bx) (hy : s.bx id = some y) (h0 : Below 0 w w')
    (hk : ∀ k, y.blk ≠ some k → k < w.heap.size → w'.heap[k]? = w.heap[k]?) (hDD : ∀ b, D b → D' b) (hD' : ∀ b, D' b → b < w'.heap.size ∧ (D b ∨ y.blk = some b ∨ w.heap.size ≤ b))
    (hb : ∀ g, y'.blk = some g → (y.blk = some g ∨ w.heap.size ≤ g) ∧ ¬ D' g) (hR : BoxR D' w' y') : RelD c D' (s.setB id (some y')) a w' := by
  have hyb := (h.bx id y hy)
  have hkD : ∀ b, D b → b < w.heap.size → w'.heap[b]? = w.heap[b]? := fun b hd hl => hk b (fun e => (hyb.1 b e).2 hd) hl
  refine ⟨h.defers, h.size, ?_, fun b hd => (hD' b hd).1, ⟨fun b hb => hDD b (h.old.1 b hb), fun b hb => ?_⟩, fun t v hv => (h.tm t v hv).frame hDD h0.size hkD, ?_, ?_⟩
  · refine ⟨h0.os.trans h.below.os, h0.tape.trans h.below.tape, h0.output.trans h.below.output, Nat.le_trans h.below.size h0.size, fun k hlt hl => ?_⟩
    rw [hk k (fun e => by rcases (hyb.1 k e).1 with g | g; (· omega); exact hl g) (by omega)]
    exact h.below.block k hlt hl
  · rcases (hD' b hb).2 with e | e | e
    · exact h.old.2 b e
    · exact .inr (hyb.1 b e).1
    · exact .inr (.inl (Nat.le_trans hc e))
  · intro i x hx
    simp only [FS.setB] at hx
    split at hx
    · obtain rfl := Option.some.inj hx
      refine ⟨fun g hg => ⟨?_, (hb g hg).2⟩, hR⟩
      rcases (hb g hg).1 with e | e
      · exact (hyb.1 g e).1
      · exact .inl (Nat.le_trans hc e)
    · rename_i hne
      obtain ⟨h1, h3⟩ := h.bx i x hx
      refine ⟨fun g hg => ⟨(h1 g hg).1, fun hd => ?_⟩, h3.frame hDD h0.size hkD (fun g hg => hk _ (h.apart i id x y hx hy hne g hg) (h3.lt hg))⟩
      rcases (hD' g hd).2 with e | e | e
      · exact (h1 g hg).2 e
      · exact h.apart i id x y hx hy hne g hg e
      · have := h3.lt hg; omega
  · intro i j x x' hx hx' hij g hg hg'
    simp only [FS.setB] at hx hx'
    split at hx <;> split at hx'
    · rename_i e1 e2; exact absurd (e1.trans e2.symm) hij
    · rename_i e1 e2
      obtain rfl := Option.some.inj hx
      have h3 := (h.bx j x' hx').2.lt hg'
      rcases (hb g hg).1 with e | e
      · exact h.apart id j y x' hy hx' (fun e => e2 e.symm) g e hg'
      · omega
    · rename_i e1 e2
      obtain rfl := Option.some.inj hx'
      have h3 := (h.bx i x hx).2.lt hg
      rcases (hb g hg').1 with e | e
      · exact h.apart i id x y hx hy e1 g hg e
      · omega
    · exact h.apart i j x x' hx hx' hij g hg hg'
end Copyhold
