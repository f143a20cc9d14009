/- Slices in memory, over any program: what a slice reads as; copy, append and make onto rows of the call's own. No conditions beyond each law's own. -/
import Derived.Maps.AppendAt
import Derived.Deep.RegionLaw
import Derived.OwnWalk
import Derived.Deep.AppendLies
import Derived.Laws.CopyRow
import Derived.Laws.IdiomCopy
import Derived.Laws.MakeOwn
import Derived.Test.YtibcmgmlklehdaaKit
namespace Copyhold
open Go Go.RowKit

theorem add_plain' (b off j : Nat) : (⟨b, off, none⟩ : Addr).add j = ⟨b, off + j, none⟩ := by unfold Addr.add; split <;> simp_all

theorem below_dn {B : Nat} {a w : World} (h : Below B a w) (n : Nat) : Below B a (w.drewN n) := ⟨h.os, h.tape, h.output, h.size, h.block⟩

/-- old cells read as before -/
theorem bcell {W w1 : World} (hb : Below W.heap.size W w1) : (∀ b o, b < W.heap.size → w1.cell? ⟨b, o, none⟩ = W.cell? ⟨b, o, none⟩) ∧ (∀ b o, b < W.heap.size → w1.frozen? ⟨b, o, none⟩ = W.frozen? ⟨b, o, none⟩) :=
  ⟨fun b o h => hb.cell (p := ⟨b, o, none⟩) h, fun b o h => hb.frozen (p := ⟨b, o, none⟩) h⟩

/-- a slice value that reads as n elements of k cells each -/
def Sl (w : World) (k : Nat) (v : Value) (n : Nat) (xs : List Value) : Prop :=
  ∃ A c, v = .slice A n c ∧ n ≤ c ∧ xs.length = n * k ∧ (0 < n → ∃ b off, A = some ⟨b, off, none⟩ ∧ b < w.heap.size ∧ ∀ j x, xs[j]? = some x → w.cell? ⟨b, off + j, none⟩ = some x)

theorem Sl.below {w w' : World} {k : Nat} {v : Value} {n : Nat} {xs : List Value} (h : Sl w k v n xs) (hb : Below w.heap.size w w') : Sl w' k v n xs := by
  obtain ⟨A, c, rfl, hc, hl, hh⟩ := h
  refine ⟨A, c, rfl, hc, hl, fun h0 => ?_⟩
  obtain ⟨b, off, rfl, hbk, hcell⟩ := hh h0
  have := hb.size
  exact ⟨b, off, rfl, by omega, fun j x hx => (hb.cell (p := ⟨b, off + j, none⟩) hbk).trans (hcell j x hx)⟩

theorem Sl.nil (w : World) (k : Nat) : Sl w k (.slice none 0 0) 0 [] := ⟨none, 0, rfl, Nat.le_refl _, by simp, fun h => absurd h (by omega)⟩

theorem Sl.same {w w' : World} {k : Nat} {v : Value} {n : Nat} {xs : List Value} (h : Sl w k v n xs) (hh : w'.heap = w.heap) : Sl w' k v n xs := by
  obtain ⟨A, c, rfl, hc, hl, hx⟩ := h
  refine ⟨A, c, rfl, hc, hl, fun h0 => ?_⟩
  obtain ⟨b, off, rfl, hbk, hcell⟩ := hx h0
  exact ⟨b, off, rfl, by rw [hh]; exact hbk, fun j x hj => by rw [← hcell j x hj]; simp [World.cell?, hh]⟩

theorem Sl.of_row {w : World} {v : Value} {xs : List Value} (h : Row w v xs) : Sl w 1 v xs.length xs := by
  rcases h with ⟨a, c, rfl, rfl⟩ | ⟨b, off, cap, rfl, h0, hc, hbk, hcell⟩
  · exact ⟨a, c, rfl, Nat.zero_le _, by simp, fun h => absurd h (by simp)⟩
  · exact ⟨_, cap, rfl, hc, by simp, fun _ => ⟨b, off, rfl, hbk, hcell⟩⟩

theorem Sl.row {w : World} {v : Value} {n : Nat} {xs : List Value} (h : Sl w 1 v n xs) : Row w v xs := by
  obtain ⟨A, c, rfl, hc, hl, hh⟩ := h
  rw [Nat.mul_one] at hl
  subst hl
  by_cases h0 : 0 < xs.length
  · obtain ⟨b, off, rfl, hbk, hcell⟩ := hh h0
    exact .inr ⟨b, off, c, rfl, h0, hc, hbk, hcell⟩
  · have : xs = [] := List.eq_nil_of_length_eq_zero (by omega)
    subst this
    exact .inl ⟨A, c, rfl, rfl⟩

theorem Sl.of_owns {w : World} {base : Nat} {e : TypeId} {k : Nat} {v : Value} {n : Nat} {xs : List Value} (h : w.ownsRow base e k v n xs) : Sl w k v n xs := by
  rcases h.2 with ⟨rfl, rfl⟩ | ⟨g, cap, cur, rfl, hb, hgg, hnc, _, _, htake⟩
  · exact ⟨none, 0, rfl, Nat.le_refl _, h.1, fun h => absurd h (by omega)⟩
  · refine ⟨_, cap, rfl, hnc, h.1, fun _ => ⟨g, 0, rfl, (Array.getElem?_eq_some_iff.1 hgg).1, fun i x hx => ?_⟩⟩
    have h' := h.cells (g := g) rfl i x hx
    rw [add_plain'] at h'
    exact h'

/-- what stands at element i -/
theorem Sl.at {w : World} {k : Nat} {A : Option Addr} {n c : Nat} {xs : List Value} (h : Sl w k (.slice A n c) n xs) (hn : 0 < n) :
    ∃ b off, A = some ⟨b, off, none⟩ ∧ b < w.heap.size ∧ n ≤ c ∧ xs.length = n * k ∧ ∀ j x, xs[j]? = some x → w.cell? ⟨b, off + j, none⟩ = some x := by
  obtain ⟨A', c', he, hc, hl, hh⟩ := h
  simp only [Value.slice.injEq] at he
  obtain ⟨rfl, _, rfl⟩ := he
  obtain ⟨b, off, rfl, hbk, hcell⟩ := hh hn
  exact ⟨b, off, rfl, hbk, hc, hl, hcell⟩

theorem Sl.shape {w : World} {k : Nat} {v : Value} {n : Nat} {xs : List Value} (h : Sl w k v n xs) : ∃ A c, v = .slice A n c ∧ n ≤ c ∧ xs.length = n * k := by
  obtain ⟨A, c, rfl, hc, hl, _⟩ := h
  exact ⟨A, c, rfl, hc, hl⟩

/-- an element's type, as the program's table has it -/
def Elem (P : Program) (t e : TypeId) (z : Value) (size bytes : Nat) : Prop :=
  P.underlying t = some (.slice e) ∧ (P.info? e).map (fun i => (i.zero, i.size, i.bytes)) = some (some z, size, bytes) ∧ z.cells.size = size ∧ 0 < size

theorem info_of {P : Program} {e : TypeId} {z : Value} {size bytes : Nat} (h : (P.info? e).map (fun i => (i.zero, i.size, i.bytes)) = some (some z, size, bytes)) :
    ∃ i, P.info? e = some i ∧ i.zero = some z ∧ i.size = size ∧ i.bytes = bytes := by
  cases hi : P.info? e with
  | none => rw [hi] at h; cases h
  | some i =>
    rw [hi] at h
    simp at h
    exact ⟨i, rfl, h.1, h.2.1, h.2.2⟩

/-- append of a slice onto a row of the call's own -/
theorem append_sl {P : Program} {t e : TypeId} {z : Value} {size bytes : Nat} (E : Elem P t e z size bytes) (w : World) (base : Nat) (ty : TypeId) (v : Value) (n : Nat) (xs : List Value) (hown : w.ownsRow base e size v n xs)
    (sv : Value) (m : Nat) (news : List Value) (hs : Sl w size sv m news) (h1 : ∀ u ∈ news, u.oneCell' = true)
    (h63 : n + m ≤ maxLen) (hbytes : (n + m) * bytes ≤ 140737488355328) (hbase : base ≤ w.heap.size) :
    ∃ v' w', (Builtin.append_ #[t, t] ty #[v, sv]).run P w = .ok v' w' ∧ w'.ownsRow base e size v' (n + m) (xs ++ news) ∧ w.grownBy w' v.ownBlock ∧ (v'.ownBlock = v.ownBlock ∨ v'.ownBlock = some w.heap.size) := by
  obtain ⟨ht, hinf, hzs, hsz⟩ := E
  obtain ⟨i, hi, hz, hsize, hby⟩ := info_of hinf
  obtain ⟨A, c, rfl, hc, hl, hh⟩ := hs
  by_cases h0 : 0 < m
  · obtain ⟨b, off, rfl, hbk, hcell⟩ := hh h0
    obtain ⟨v', w', hr, h2, h3, _, h5⟩ := run_append_own_at (P := P) w base t ty e i z size bytes ht hi hz hsize hby hzs hsz v n xs hown ⟨b, off, none⟩ m c news hl (fun j u hu => by rw [add_plain']; exact hcell j u hu) h1 h63 hbytes hbase
    exact ⟨v', w', hr, h2, h3, h5⟩
  · obtain rfl : m = 0 := by omega
    obtain rfl : news = [] := List.eq_nil_of_length_eq_zero (by simpa using hl)
    cases A with
    | some a =>
      obtain ⟨v', w', hr, h2, h3, _, h5⟩ := run_append_own_at (P := P) w base t ty e i z size bytes ht hi hz hsize hby hzs hsz v n xs hown a 0 c [] (by simp) (fun j u hu => by simp at hu) h1 h63 hbytes hbase
      exact ⟨v', w', hr, h2, h3, h5⟩
    | none =>
      refine ⟨v, w, ?_, by simpa using hown, World.grownBy.refl w _, .inl rfl⟩
      rcases hown.2 with ⟨rfl, rfl⟩ | ⟨g, cap, cur, rfl, _, _, hnc, _⟩
      · simp [Builtin.append_, run_underlying ht, Go.sizeOf, typeInfo, hi, Builtin.lenOf, Builtin.firstCells]
      · simp [Builtin.append_, run_underlying ht, Go.sizeOf, typeInfo, hi, Builtin.lenOf, Builtin.firstCells, hnc, storeCells]

/-- what a grown world keeps below the call's own blocks -/
theorem grown_below {B : Nat} {a w w' : World} {row : Option Nat} (h : Below B a w) (hg : w.grownBy w' row) (hB : B ≤ w.heap.size) (hr : ∀ g, row = some g → B ≤ g) : Below B a w' :=
  h.grown hg hB hr

/-- a row of the call's own lies among its own blocks -/
theorem own_block_ge {w : World} {base : Nat} {e : TypeId} {k : Nat} {v : Value} {n : Nat} {xs : List Value} (h : w.ownsRow base e k v n xs) : ∀ g, v.ownBlock = some g → base ≤ g ∧ g < w.heap.size := by
  intro g hg
  rcases h.2 with ⟨rfl, rfl⟩ | ⟨g', cap, cur, rfl, hb, hgg, _⟩
  · simp [Value.ownBlock] at hg
  · have : g' = g := by simpa [Value.ownBlock] using hg
    subst this
    exact ⟨hb, (Array.getElem?_eq_some_iff.1 hgg).1⟩

/-- copy of a whole slice into a new row of one-cell elements -/
theorem copy_new {P : Program} (w : World) (dT sT ty e : TypeId) (g n cap : Nat) (cur : List Value) (t : TypeId) (sv : Value) (xs : List Value) (hu : P.underlying dT = some (.slice e)) (hs : (P.info? e).map (·.size) = some 1)
    (hg : w.heap[g]? = some (.cells cur.toArray t (0, 0))) (hcl : n ≤ cur.length) (hsv : Sl w 1 sv n xs) (h1 : ∀ u ∈ xs, u.oneCell' = true) :
    ∃ w', (Builtin.copy_ #[dT, sT] ty #[.slice (some ⟨g, 0, none⟩) n cap, sv]).run P w = .ok (goInt n) w' ∧ w'.heap[g]? = some (.cells (xs ++ cur.drop n).toArray t (0, 0)) ∧ (∀ k, k ≠ g → w'.heap[k]? = w.heap[k]?) ∧ Below g w w' := by
  obtain ⟨A, c, rfl, hc, hl, hh⟩ := hsv
  rw [Nat.mul_one] at hl
  by_cases h0 : 0 < n
  · obtain ⟨b, off, rfl, hbk, hcell⟩ := hh h0
    have hr := run_copy_row (P := P) w dT sT ty e g 0 n cap ⟨b, off, none⟩ n c cur.toArray t xs hu hs hg (by rw [hl]; exact (Nat.min_self n).symm) (fun j v hv => by rw [add_plain']; exact hcell j v hv) (by simp; omega) h1
    rw [hl] at hr
    refine ⟨_, hr, ?_, fun k hk => setRow_other w g k _ hk, ?_⟩
    · rw [setRow_heap w g _ _ t _ hg]
      simp
    · exact below_setRow (Below.refl _ _) (Nat.le_refl _) _
  · obtain rfl : n = 0 := by omega
    obtain rfl : xs = [] := List.eq_nil_of_length_eq_zero hl
    refine ⟨w, run_copy_none w dT sT ty e _ _ 0 cap 0 c hu hs (by simp), by simpa using hg, fun _ _ => rfl, Below.refl _ _⟩

theorem madeOne (z : Value) (h : z.cells = #[z]) (n : Nat) : madeCells z.cells n = (List.replicate n z).toArray := by
  unfold madeCells
  rw [h]
  apply Array.ext
  · simp
  · intro i h1 h2
    simp [Nat.mod_one]

/-- make of one-cell elements -/
theorem make_one {P : Program} {t e : TypeId} {z : Value} {bytes : Nat} (E : Elem P t e z 1 bytes) (hz1 : z.cells = #[z]) (n : Nat) (hb : bytes * n ≤ 281474976710656) (hm : n ≤ 9223372036854775807) (w : World) :
    (Instr.makeSlice t (.int .i64 (n : Int)) (.int .i64 (n : Int))).run P w = .ok (.slice (some ⟨w.heap.size, 0, none⟩) n n) (w.alloc (.cells (List.replicate n z).toArray e)) := by
  obtain ⟨ht, hinf, hzs, hsz⟩ := E
  obtain ⟨i, hi, hz, hsize, hby⟩ := info_of hinf
  have hb' : (i.bytes : Int) * (n : Int) ≤ 281474976710656 := by
    have h : ((i.bytes * n : Nat) : Int) ≤ 281474976710656 := by rw [hby]; omega
    rwa [Int.natCast_mul] at h
  have h := run_make (P := P) w t e i z ht hi hz .i64 .i64 (n : Int) (n : Int) (by omega) (by omega) hb' (by omega)
  rw [hsize, madeOne _ hz1, Int.toNat_natCast, Nat.mul_one] at h
  exact h

/-- a block of the call's own, known whole, as a row of one-cell elements -/
theorem owns_block {w : World} {base g : Nat} {e : TypeId} {xs : List Value} (hb : base ≤ g) (hg : w.heap[g]? = some (.cells xs.toArray e (0, 0))) (hm : xs.length ≤ maxLen) :
    w.ownsRow base e 1 (.slice (some ⟨g, 0, none⟩) xs.length xs.length) xs.length xs :=
  ⟨by simp, .inr ⟨g, xs.length, xs.toArray, rfl, hb, hg, Nat.le_refl _, hm, by simp, by simp⟩⟩

/-- a row of the call's own stands while no block from its base on turns -/
theorem owns_far {w w' : World} {base : Nat} {e : TypeId} {k : Nat} {v : Value} {n : Nat} {xs : List Value} (h : w.ownsRow base e k v n xs) (hk : ∀ j, base ≤ j → w'.heap[j]? = w.heap[j]?) : w'.ownsRow base e k v n xs := by
  refine ⟨h.1, ?_⟩
  rcases h.2 with h' | ⟨g, cap, cur, rfl, hg, hgg, r⟩
  · exact .inl h'
  · exact .inr ⟨g, cap, cur, rfl, hg, by rw [hk g hg]; exact hgg, r⟩
theorem heap_setCell_far (w : World) (p : Addr) (u : Value) (k : Nat) (h : k ≠ p.block) : (w.setCell p u).heap[k]? = w.heap[k]? := Below.heap_setCell w p u k h
theorem owns_setCell {w : World} {base : Nat} {e : TypeId} {k : Nat} {v : Value} {n : Nat} {xs : List Value} (h : w.ownsRow base e k v n xs) (p : Addr) (u : Value) (hp : p.block < base) : (w.setCell p u).ownsRow base e k v n xs :=
  owns_far h fun j hj => heap_setCell_far w p u j (by omega)

/-- append, by its run -/
theorem wpList_append_run {P : Program} {w : World} {ops : Array Oper} {rest : List Oper} {o : Oper} {a : Act} {Q : Exit → Act → World → Prop} (hgd : o.guard = none) (s x : Operand) (t : TypeId)
    (ho : o.op = .call { callee := .builtin .append, args := #[s, x], argTypes := #[t, t] }) (v v2 v' : Value) (w' : World) (hs : a.eval s = v) (hx : a.eval x = v2)
    (hrun : (Builtin.append_ #[t, t] o.type #[v, v2]).run P w = .ok v' w') (h : wpList P ops Q rest (a.put o.dst v') w') : wpList P ops Q (o :: rest) a w :=
  wpList_plain hgd fun K hK => by
    unfold Oper.wp
    simp [execOp, ho, resolve, invoke, builtin, hs, hx, hrun, Result.andThen]
    exact hK _ _ h
theorem step_append_run {P : Program} {ops : Array Oper} {o : Oper} {a : Act} {w : World} {K : Act → World → Prop} {Q : Exit → Act → World → Prop} {E : Prop} (hgd : o.guard = none) (s x : Operand) (t : TypeId)
    (ho : o.op = .call { callee := .builtin .append, args := #[s, x], argTypes := #[t, t] }) (v v2 v' : Value) (w' : World) (hs : a.eval s = v) (hx : a.eval x = v2)
    (hrun : (Builtin.append_ #[t, t] o.type #[v, v2]).run P w = .ok v' w') (h : K (a.put o.dst v') w') : if Region.wanted o (yielded ops a.tmps) = true then Oper.wp P o a w K Q else E := by
  have hw : Region.wanted o (yielded ops a.tmps) = true := by simp [Region.wanted, hgd]
  rw [if_pos hw]
  unfold Oper.wp
  simp [execOp, ho, resolve, invoke, builtin, hs, hx, hrun, Result.andThen]
  exact h

/-- a cell that is there stays, where nothing old turns -/
theorem cell_lt {w : World} {b o : Nat} {v : Value} (h : w.cell? ⟨b, o, none⟩ = some v) : b < w.heap.size := by
  rcases Nat.lt_or_ge b w.heap.size with hl | hl
  · exact hl
  · simp only [World.cell?, Array.getElem?_eq_none hl] at h
    cases h
theorem cell_keep {W w1 : World} (hb : Below W.heap.size W w1) {b o : Nat} {v : Value} (h : W.cell? ⟨b, o, none⟩ = some v) : w1.cell? ⟨b, o, none⟩ = some v :=
  (hb.cell (p := ⟨b, o, none⟩) (cell_lt h)).trans h
theorem cell_alloc {W : World} (ob : Obj) {b o : Nat} {v : Value} (h : W.cell? ⟨b, o, none⟩ = some v) : (W.alloc ob).cell? ⟨b, o, none⟩ = some v :=
  cell_keep ((Below.refl _ _).alloc (Nat.le_refl _) ob) h
theorem cell_new (W : World) (cs : Array Value) (t : TypeId) (i : Nat) : (W.alloc (.cells cs t)).cell? ⟨W.heap.size, i, none⟩ = cs[i]? := by
  simp only [World.cell?, heap_alloc_new]
  rfl
theorem below_trans {B : Nat} {a b c : World} (h : Below B a b) (k : Below b.heap.size b c) (hB : B ≤ b.heap.size) : Below B a c := h.trans (k.mono hB)

/-- two cells of a block stored one behind the other -/
theorem put2 {w : World} {g : Nat} (u v : Value) {u0 v0 : Value} (q0 : w.cell? ⟨g, 0, none⟩ = some u0) (q1 : w.cell? ⟨g, 1, none⟩ = some v0) :
    ((w.setCell ⟨g, 0, none⟩ u).setCell ⟨g, 1, none⟩ v).cell? ⟨g, 0, none⟩ = some u ∧ ((w.setCell ⟨g, 0, none⟩ u).setCell ⟨g, 1, none⟩ v).cell? ⟨g, 1, none⟩ = some v ∧
    (∀ k, k ≠ g → ((w.setCell ⟨g, 0, none⟩ u).setCell ⟨g, 1, none⟩ v).heap[k]? = w.heap[k]?) ∧ ((w.setCell ⟨g, 0, none⟩ u).setCell ⟨g, 1, none⟩ v).heap.size = w.heap.size ∧
    ∀ o, ((w.setCell ⟨g, 0, none⟩ u).setCell ⟨g, 1, none⟩ v).frozen? ⟨g, o, none⟩ = w.frozen? ⟨g, o, none⟩ := by
  refine ⟨?_, ?_, fun k hk => ?_, by simp, fun o => by simp [go_sem]⟩
  · rw [World.cell?_setCell_other _ _ _ _ (by intro h; simp at h), World.cell?_setCell_same _ _ _ q0]
  · rw [World.cell?_setCell_same _ _ _ (show _ = some v0 by rw [World.cell?_setCell_other _ _ _ _ (by intro h; simp at h)]; exact q1)]
  · rw [Below.heap_setCell _ _ _ _ hk, Below.heap_setCell _ _ _ _ hk]

/-- where a slice's elements lie -/
def At (D : Nat → Prop) : Value → Prop
  | .slice (some a) n _ => 0 < n → D a.block
  | _ => True

theorem At.mono {D D' : Nat → Prop} {v : Value} (h : At D v) (hd : ∀ b, D b → D' b) : At D' v := by
  unfold At at h ⊢
  split
  · exact fun h0 => hd _ (h h0)
  · trivial

theorem At.of_owns {w : World} {base : Nat} {e : TypeId} {k : Nat} {v : Value} {n : Nat} {xs : List Value} (h : w.ownsRow base e k v n xs) : At (base ≤ ·) v := by
  rcases h.2 with ⟨rfl, rfl⟩ | ⟨g, cap, cur, rfl, hb, _⟩
  · trivial
  · exact fun _ => hb

theorem Row.lies {w : World} {v : Value} {xs : List Value} (h : Row w v xs) : At (· < w.heap.size) v := by
  rcases h with ⟨a, c, rfl, rfl⟩ | ⟨b, off, cap, rfl, h0, hc, hbk, hcell⟩
  · cases a
    · trivial
    · exact fun h => absurd h (by omega)
  · exact fun _ => hbk

/-- a row stands while the blocks that it may lie in don't turn -/
theorem Row.frame {D : Nat → Prop} {w w' : World} {v : Value} {xs : List Value} (h : Row w v xs) (hat : At D v) (hk : ∀ b, D b → b < w.heap.size → w'.heap[b]? = w.heap[b]?) (hs : w.heap.size ≤ w'.heap.size) : Row w' v xs := by
  rcases h with h | ⟨b, off, cap, rfl, h0, hc, hbk, hcell⟩
  · exact .inl h
  · exact .inr ⟨b, off, cap, rfl, h0, hc, by omega, fun i x hx => by rw [← hcell i x hx]; exact World.cell?_of_block (hk b (hat h0) hbk)⟩

theorem Sl.lies {w : World} {k : Nat} {v : Value} {n : Nat} {xs : List Value} (h : Sl w k v n xs) : At (· < w.heap.size) v := by
  obtain ⟨A, c, rfl, hc, hl, hh⟩ := h
  cases A
  · trivial
  · intro h0
    obtain ⟨b, off, he, hbk, _⟩ := hh h0
    injection he with he
    subst he
    exact hbk

theorem Sl.frame {D : Nat → Prop} {w w' : World} {k : Nat} {v : Value} {n : Nat} {xs : List Value} (h : Sl w k v n xs) (hat : At D v) (hk : ∀ b, D b → b < w.heap.size → w'.heap[b]? = w.heap[b]?) (hs : w.heap.size ≤ w'.heap.size) : Sl w' k v n xs := by
  obtain ⟨A, c, rfl, hc, hl, hh⟩ := h
  refine ⟨A, c, rfl, hc, hl, fun h0 => ?_⟩
  obtain ⟨b, off, rfl, hbk, hcell⟩ := hh h0
  exact ⟨b, off, rfl, by omega, fun j x hx => by rw [← hcell j x hx]; exact World.cell?_of_block (hk b (hat h0) hbk)⟩
end Copyhold
