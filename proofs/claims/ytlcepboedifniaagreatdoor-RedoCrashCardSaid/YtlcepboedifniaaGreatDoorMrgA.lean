/- Small laws of our own for the walks, over any program: bytes that a call owns turned into a string; what is owned kept while worlds go on. No conditions beyond each law's own. Slices in memory, over any program: what a slice reads as; copy, append and make onto rows of the call's own. No conditions beyond each law's own. What a taker of parts has in memory: what is left of a text, and an error, in two cells of a block; what a part that is taken makes of the world. Over any program. -/
import Derived.WalkKit
import Derived.WalkLawsBesides
import Derived.WalkSpells
import Derived.Lib.Hide
import Derived.Lib.ConvBytes
import Derived.Maps.AppendAt
import Derived.Deep.RegionLaw
import Derived.OwnWalk
import Derived.Deep.AppendLies
import Derived.Laws.CopyRow
import Derived.Laws.IdiomCopy
import Derived.Laws.MakeOwn
namespace Copyhold
open Go Go.RowKit
theorem ret_int {k : IntKind} {a b : Int} (h : a = b) : Ending.returned (.int k a) = .returned (.int k b) := by rw [h]
theorem ret3 {a a' b b' c c' : Value} (h1 : a = a') (h2 : b = b') (h3 : c = c') : Ending.returned (.tuple #[a, b, c]) = .returned (.tuple #[a', b', c']) := by rw [h1, h2, h3]
theorem int_toNat {k : IntKind} {z : Int} (h : 0 ≤ z) : Value.int k z = .int k (z.toNat : Int) := by rw [Int.toNat_of_nonneg h]
theorem wrap_u64' (n : Int) : IntKind.u64.wrap n = n % 18446744073709551616 := by simp [IntKind.wrap, IntKind.bits, IntKind.signed]
@[go_sem] theorem cat (x y : List UInt8) : (⟨x.toArray⟩ : ByteArray) ++ ⟨y.toArray⟩ = ⟨(x ++ y).toArray⟩ := by
  apply ByteArray.ext
  simp
theorem piece (l : List UInt8) (a b : Nat) : (⟨l.toArray⟩ : ByteArray).extract a b = ⟨((l.take b).drop a).toArray⟩ := by
  apply ByteArray.ext
  simp [List.drop_take]
theorem piece_end (l : List UInt8) (a : Nat) : (⟨l.toArray⟩ : ByteArray).extract a l.length = ⟨(l.drop a).toArray⟩ := by
  rw [piece, List.take_length]
theorem run_convert_own {P : Program} {w : World} {base : Nat} {e : TypeId} {v : Value} {n : Nat} {xs : List Int} (src dst : TypeId)
    (hs : P.underlying src = some (.slice e)) (he : P.underlying e = some (.int .u8)) (hd : P.underlying dst = some .string)
    (hown : w.ownsRow base e 1 v n (xs.map (Value.int .u8))) : (convert src dst v).run P w = .ok (.string (strOfNums xs)) w := by
  have hl : xs.length = n := by simpa using hown.1
  rcases hown.2 with ⟨rfl, rfl⟩ | ⟨g, cap, cur, rfl, hb, hgg, _, _, _, htake⟩
  · have : xs = [] := List.eq_nil_of_length_eq_zero hl
    subst this
    exact run_convert_bytes_nil w src e hs he 0 0 dst hd
  · refine run_convert_bytes_arg w src e hs he g 0 n cap xs hl ?_ dst hd
    intro i hi
    have h := hown.cells (g := g) rfl i (.int .u8 (xs.getD i 0)) (by
      rw [List.getElem?_map, List.getElem?_eq_getElem (by omega)]
      simp [List.getD, List.getElem?_eq_getElem (show i < xs.length by omega)])
    have hadd : (⟨g, 0, none⟩ : Addr).add i = ⟨g, 0 + i, none⟩ := by unfold Addr.add; split <;> simp_all
    rw [hadd] at h
    exact h
theorem below_setRow {B : Nat} {a w : World} (h : Below B a w) {g : Nat} (hg : B ≤ g) (cs : Array Value) : Below B a (w.setRow g cs) :=
  h.trans ⟨rfl, rfl, rfl, by simp, fun k hk => by simp only [World.setRow, Array.getElem?_modify]; rw [if_neg (by omega)]⟩
def strV (l : List UInt8) : Value := .string ⟨l.toArray⟩
def Row (w : World) (v : Value) (xs : List Value) : Prop :=
  (∃ a c, v = .slice a 0 c ∧ xs = []) ∨
  ∃ b off cap, v = .slice (some ⟨b, off, none⟩) xs.length cap ∧ 0 < xs.length ∧ xs.length ≤ cap ∧ b < w.heap.size ∧ ∀ (i : Nat) x, xs[i]? = some x → w.cell? ⟨b, off + i, none⟩ = some x
theorem Row.below {w w' : World} {v : Value} {xs : List Value} (h : Row w v xs) (hb : Below w.heap.size w w') : Row w' v xs := by
  rcases h with h | ⟨b, off, cap, rfl, h0, hc, hbk, hcell⟩
  · exact .inl h
  · have := hb.size
    exact .inr ⟨b, off, cap, rfl, h0, hc, by omega, fun i x hx => (hb.cell (p := ⟨b, off + i, none⟩) hbk).trans (hcell i x hx)⟩
theorem Row.alloc {w : World} {v : Value} {xs : List Value} (h : Row w v xs) (o : Obj) : Row (w.alloc o) v xs :=
  h.below ((Below.refl _ _).alloc (Nat.le_refl _) o)
theorem Row.of_owns {w : World} {base : Nat} {e : TypeId} {v : Value} {n : Nat} {xs : List Value} (h : w.ownsRow base e 1 v n xs) : Row w v xs := by
  have hl : xs.length = n := by simpa using h.1
  rcases h.2 with ⟨rfl, rfl⟩ | ⟨g, cap, cur, rfl, hb, hgg, hnc, _, _, htake⟩
  · exact .inl ⟨none, 0, rfl, List.eq_nil_of_length_eq_zero hl⟩
  · by_cases h0 : n = 0
    · subst h0
      exact .inl ⟨_, cap, rfl, List.eq_nil_of_length_eq_zero hl⟩
    · refine .inr ⟨g, 0, cap, by rw [hl], by omega, by omega, (Array.getElem?_eq_some_iff.1 hgg).1, fun i x hx => ?_⟩
      have h' := h.cells (g := g) rfl i x hx
      have hadd : (⟨g, 0, none⟩ : Addr).add i = ⟨g, 0 + i, none⟩ := by unfold Addr.add; split <;> simp_all
      rw [hadd] at h'
      exact h'
theorem Row.shape {w : World} {v : Value} {xs : List Value} (h : Row w v xs) : ∃ a c, v = .slice a xs.length c := by
  rcases h with ⟨a, c, rfl, rfl⟩ | ⟨b, off, cap, rfl, _⟩
  · exact ⟨a, c, rfl⟩
  · exact ⟨_, cap, rfl⟩
theorem Row.at {w : World} {a : Option Addr} {n c : Nat} {xs : List Value} (h : Row w (.slice a n c) xs) (k : Nat) {x : Value} (hk : xs[k]? = some x) :
    ∃ b off, a = some ⟨b, off, none⟩ ∧ b < w.heap.size ∧ xs.length ≤ c ∧ ∀ (i : Nat) y, xs[i]? = some y → w.cell? ⟨b, off + i, none⟩ = some y := by
  rcases h with ⟨a', c', h, rfl⟩ | ⟨b, off, cap, h, h0, hc, hbk, hcell⟩
  · simp at hk
  · simp only [Value.slice.injEq] at h
    obtain ⟨rfl, rfl, rfl⟩ := h
    exact ⟨b, off, rfl, hbk, hc, hcell⟩
theorem owns_built {w : World} {base : Nat} {e : TypeId} (cs : Array Value) (hb : base ≤ w.heap.size) (hm : cs.size ≤ maxLen) :
    (w.alloc (.cells cs e)).ownsRow base e 1 (.slice (some ⟨w.heap.size, 0, none⟩) cs.size cs.size) cs.size cs.toList :=
  ⟨by simp, .inr ⟨w.heap.size, cs.size, cs, rfl, hb, heap_alloc_new w _, Nat.le_refl _, hm, by simp, by rw [Nat.mul_one, ← Array.length_toList, List.take_length]⟩⟩
end Copyhold

namespace Copyhold
open Go Go.RowKit
theorem add_plain' (b off j : Nat) : (⟨b, off, none⟩ : Addr).add j = ⟨b, off + j, none⟩ := by unfold Addr.add; split <;> simp_all
def Sl (w : World) (k : Nat) (v : Value) (n : Nat) (xs : List Value) : Prop :=
  ∃ A c, v = .slice A n c ∧ n ≤ c ∧ xs.length = n * k ∧ (0 < n → ∃ b off, A = some ⟨b, off, none⟩ ∧ b < w.heap.size ∧ ∀ j x, xs[j]? = some x → w.cell? ⟨b, off + j, none⟩ = some x)
theorem Sl.below {w w' : World} {k : Nat} {v : Value} {n : Nat} {xs : List Value} (h : Sl w k v n xs) (hb : Below w.heap.size w w') : Sl w' k v n xs := by
  obtain ⟨A, c, rfl, hc, hl, hh⟩ := h
  refine ⟨A, c, rfl, hc, hl, fun h0 => ?_⟩
  obtain ⟨b, off, rfl, hbk, hcell⟩ := hh h0
  have := hb.size
  exact ⟨b, off, rfl, by omega, fun j x hx => (hb.cell (p := ⟨b, off + j, none⟩) hbk).trans (hcell j x hx)⟩
theorem Sl.nil (w : World) (k : Nat) : Sl w k (.slice none 0 0) 0 [] := ⟨none, 0, rfl, Nat.le_refl _, by simp, fun h => absurd h (by omega)⟩
theorem Sl.of_row {w : World} {v : Value} {xs : List Value} (h : Row w v xs) : Sl w 1 v xs.length xs := by
  rcases h with ⟨a, c, rfl, rfl⟩ | ⟨b, off, cap, rfl, h0, hc, hbk, hcell⟩
  · exact ⟨a, c, rfl, Nat.zero_le _, by simp, fun h => absurd h (by simp)⟩
  · exact ⟨_, cap, rfl, hc, by simp, fun _ => ⟨b, off, rfl, hbk, hcell⟩⟩
theorem Sl.row {w : World} {v : Value} {n : Nat} {xs : List Value} (h : Sl w 1 v n xs) : Row w v xs := by
  obtain ⟨A, c, rfl, hc, hl, hh⟩ := h
  rw [Nat.mul_one] at hl
  subst hl
  by_cases h0 : 0 < xs.length
  · obtain ⟨b, off, rfl, hbk, hcell⟩ := hh h0
    exact .inr ⟨b, off, c, rfl, h0, hc, hbk, hcell⟩
  · have : xs = [] := List.eq_nil_of_length_eq_zero (by omega)
    subst this
    exact .inl ⟨A, c, rfl, rfl⟩
theorem Sl.of_owns {w : World} {base : Nat} {e : TypeId} {k : Nat} {v : Value} {n : Nat} {xs : List Value} (h : w.ownsRow base e k v n xs) : Sl w k v n xs := by
  rcases h.2 with ⟨rfl, rfl⟩ | ⟨g, cap, cur, rfl, hb, hgg, hnc, _, _, htake⟩
  · exact ⟨none, 0, rfl, Nat.le_refl _, h.1, fun h => absurd h (by omega)⟩
  · refine ⟨_, cap, rfl, hnc, h.1, fun _ => ⟨g, 0, rfl, (Array.getElem?_eq_some_iff.1 hgg).1, fun i x hx => ?_⟩⟩
    have h' := h.cells (g := g) rfl i x hx
    rw [add_plain'] at h'
    exact h'
theorem Sl.at {w : World} {k : Nat} {A : Option Addr} {n c : Nat} {xs : List Value} (h : Sl w k (.slice A n c) n xs) (hn : 0 < n) :
    ∃ b off, A = some ⟨b, off, none⟩ ∧ b < w.heap.size ∧ n ≤ c ∧ xs.length = n * k ∧ ∀ j x, xs[j]? = some x → w.cell? ⟨b, off + j, none⟩ = some x := by
  obtain ⟨A', c', he, hc, hl, hh⟩ := h
  simp only [Value.slice.injEq] at he
  obtain ⟨rfl, _, rfl⟩ := he
  obtain ⟨b, off, rfl, hbk, hcell⟩ := hh hn
  exact ⟨b, off, rfl, hbk, hc, hl, hcell⟩
theorem Sl.shape {w : World} {k : Nat} {v : Value} {n : Nat} {xs : List Value} (h : Sl w k v n xs) : ∃ A c, v = .slice A n c ∧ n ≤ c ∧ xs.length = n * k := by
  obtain ⟨A, c, rfl, hc, hl, _⟩ := h
  exact ⟨A, c, rfl, hc, hl⟩
def Elem (P : Program) (t e : TypeId) (z : Value) (size bytes : Nat) : Prop :=
  P.underlying t = some (.slice e) ∧ (P.info? e).map (fun i => (i.zero, i.size, i.bytes)) = some (some z, size, bytes) ∧ z.cells.size = size ∧ 0 < size
theorem info_of {P : Program} {e : TypeId} {z : Value} {size bytes : Nat} (h : (P.info? e).map (fun i => (i.zero, i.size, i.bytes)) = some (some z, size, bytes)) :
    ∃ i, P.info? e = some i ∧ i.zero = some z ∧ i.size = size ∧ i.bytes = bytes := by
  cases hi : P.info? e with
  | none => rw [hi] at h; cases h
  | some i =>
    rw [hi] at h
    simp at h
    exact ⟨i, rfl, h.1, h.2.1, h.2.2⟩
theorem append_sl {P : Program} {t e : TypeId} {z : Value} {size bytes : Nat} (E : Elem P t e z size bytes) (w : World) (base : Nat) (ty : TypeId) (v : Value) (n : Nat) (xs : List Value) (hown : w.ownsRow base e size v n xs)
    (sv : Value) (m : Nat) (news : List Value) (hs : Sl w size sv m news) (h1 : ∀ u ∈ news, u.oneCell' = true)
    (h63 : n + m ≤ maxLen) (hbytes : (n + m) * bytes ≤ 140737488355328) (hbase : base ≤ w.heap.size) :
    ∃ v' w', (Builtin.append_ #[t, t] ty #[v, sv]).run P w = .ok v' w' ∧ w'.ownsRow base e size v' (n + m) (xs ++ news) ∧ w.grownBy w' v.ownBlock ∧ (v'.ownBlock = v.ownBlock ∨ v'.ownBlock = some w.heap.size) := by
  obtain ⟨ht, hinf, hzs, hsz⟩ := E
  obtain ⟨i, hi, hz, hsize, hby⟩ := info_of hinf
  obtain ⟨A, c, rfl, hc, hl, hh⟩ := hs
  by_cases h0 : 0 < m
  · obtain ⟨b, off, rfl, hbk, hcell⟩ := hh h0
    obtain ⟨v', w', hr, h2, h3, _, h5⟩ := run_append_own_at (P := P) w base t ty e i z size bytes ht hi hz hsize hby hzs hsz v n xs hown ⟨b, off, none⟩ m c news hl (fun j u hu => by rw [add_plain']; exact hcell j u hu) h1 h63 hbytes hbase
    exact ⟨v', w', hr, h2, h3, h5⟩
  · obtain rfl : m = 0 := by omega
    obtain rfl : news = [] := List.eq_nil_of_length_eq_zero (by simpa using hl)
    cases A with
    | some a =>
      obtain ⟨v', w', hr, h2, h3, _, h5⟩ := run_append_own_at (P := P) w base t ty e i z size bytes ht hi hz hsize hby hzs hsz v n xs hown a 0 c [] (by simp) (fun j u hu => by simp at hu) h1 h63 hbytes hbase
      exact ⟨v', w', hr, h2, h3, h5⟩
    | none =>
      refine ⟨v, w, ?_, by simpa using hown, World.grownBy.refl w _, .inl rfl⟩
      rcases hown.2 with ⟨rfl, rfl⟩ | ⟨g, cap, cur, rfl, _, _, hnc, _⟩
      · simp [Builtin.append_, run_underlying ht, Go.sizeOf, typeInfo, hi, Builtin.lenOf, Builtin.firstCells]
      · simp [Builtin.append_, run_underlying ht, Go.sizeOf, typeInfo, hi, Builtin.lenOf, Builtin.firstCells, hnc, storeCells]
theorem own_block_ge {w : World} {base : Nat} {e : TypeId} {k : Nat} {v : Value} {n : Nat} {xs : List Value} (h : w.ownsRow base e k v n xs) : ∀ g, v.ownBlock = some g → base ≤ g ∧ g < w.heap.size := by
  intro g hg
  rcases h.2 with ⟨rfl, rfl⟩ | ⟨g', cap, cur, rfl, hb, hgg, _⟩
  · simp [Value.ownBlock] at hg
  · have : g' = g := by simpa [Value.ownBlock] using hg
    subst this
    exact ⟨hb, (Array.getElem?_eq_some_iff.1 hgg).1⟩
theorem copy_new {P : Program} (w : World) (dT sT ty e : TypeId) (g n cap : Nat) (cur : List Value) (t : TypeId) (sv : Value) (xs : List Value) (hu : P.underlying dT = some (.slice e)) (hs : (P.info? e).map (·.size) = some 1)
    (hg : w.heap[g]? = some (.cells cur.toArray t (0, 0))) (hcl : n ≤ cur.length) (hsv : Sl w 1 sv n xs) (h1 : ∀ u ∈ xs, u.oneCell' = true) :
    ∃ w', (Builtin.copy_ #[dT, sT] ty #[.slice (some ⟨g, 0, none⟩) n cap, sv]).run P w = .ok (goInt n) w' ∧ w'.heap[g]? = some (.cells (xs ++ cur.drop n).toArray t (0, 0)) ∧ (∀ k, k ≠ g → w'.heap[k]? = w.heap[k]?) ∧ Below g w w' := by
  obtain ⟨A, c, rfl, hc, hl, hh⟩ := hsv
  rw [Nat.mul_one] at hl
  by_cases h0 : 0 < n
  · obtain ⟨b, off, rfl, hbk, hcell⟩ := hh h0
    have hr := run_copy_row (P := P) w dT sT ty e g 0 n cap ⟨b, off, none⟩ n c cur.toArray t xs hu hs hg (by rw [hl]; exact (Nat.min_self n).symm) (fun j v hv => by rw [add_plain']; exact hcell j v hv) (by simp; omega) h1
    rw [hl] at hr
    refine ⟨_, hr, ?_, fun k hk => setRow_other w g k _ hk, ?_⟩
    · rw [setRow_heap w g _ _ t _ hg]
      simp
    · exact below_setRow (Below.refl _ _) (Nat.le_refl _) _
  · obtain rfl : n = 0 := by omega
    obtain rfl : xs = [] := List.eq_nil_of_length_eq_zero hl
    refine ⟨w, run_copy_none w dT sT ty e _ _ 0 cap 0 c hu hs (by simp), by simpa using hg, fun _ _ => rfl, Below.refl _ _⟩
theorem madeOne (z : Value) (h : z.cells = #[z]) (n : Nat) : madeCells z.cells n = (List.replicate n z).toArray := by
  unfold madeCells
  rw [h]
  apply Array.ext
  · simp
  · intro i h1 h2
    simp [Nat.mod_one]
theorem make_one {P : Program} {t e : TypeId} {z : Value} {bytes : Nat} (E : Elem P t e z 1 bytes) (hz1 : z.cells = #[z]) (n : Nat) (hb : bytes * n ≤ 281474976710656) (hm : n ≤ 9223372036854775807) (w : World) :
    (Instr.makeSlice t (.int .i64 (n : Int)) (.int .i64 (n : Int))).run P w = .ok (.slice (some ⟨w.heap.size, 0, none⟩) n n) (w.alloc (.cells (List.replicate n z).toArray e)) := by
  obtain ⟨ht, hinf, hzs, hsz⟩ := E
  obtain ⟨i, hi, hz, hsize, hby⟩ := info_of hinf
  have hb' : (i.bytes : Int) * (n : Int) ≤ 281474976710656 := by
    have h : ((i.bytes * n : Nat) : Int) ≤ 281474976710656 := by rw [hby]; omega
    rwa [Int.natCast_mul] at h
  have h := run_make (P := P) w t e i z ht hi hz .i64 .i64 (n : Int) (n : Int) (by omega) (by omega) hb' (by omega)
  rw [hsize, madeOne _ hz1, Int.toNat_natCast, Nat.mul_one] at h
  exact h
theorem heap_setCell_far (w : World) (p : Addr) (u : Value) (k : Nat) (h : k ≠ p.block) : (w.setCell p u).heap[k]? = w.heap[k]? := Below.heap_setCell w p u k h
theorem cell_lt {w : World} {b o : Nat} {v : Value} (h : w.cell? ⟨b, o, none⟩ = some v) : b < w.heap.size := by
  rcases Nat.lt_or_ge b w.heap.size with hl | hl
  · exact hl
  · simp only [World.cell?, Array.getElem?_eq_none hl] at h
    cases h
theorem cell_keep {W w1 : World} (hb : Below W.heap.size W w1) {b o : Nat} {v : Value} (h : W.cell? ⟨b, o, none⟩ = some v) : w1.cell? ⟨b, o, none⟩ = some v :=
  (hb.cell (p := ⟨b, o, none⟩) (cell_lt h)).trans h
theorem below_trans {B : Nat} {a b c : World} (h : Below B a b) (k : Below b.heap.size b c) (hB : B ≤ b.heap.size) : Below B a c := h.trans (k.mono hB)
theorem put2 {w : World} {g : Nat} (u v : Value) {u0 v0 : Value} (q0 : w.cell? ⟨g, 0, none⟩ = some u0) (q1 : w.cell? ⟨g, 1, none⟩ = some v0) :
    ((w.setCell ⟨g, 0, none⟩ u).setCell ⟨g, 1, none⟩ v).cell? ⟨g, 0, none⟩ = some u ∧ ((w.setCell ⟨g, 0, none⟩ u).setCell ⟨g, 1, none⟩ v).cell? ⟨g, 1, none⟩ = some v ∧
    (∀ k, k ≠ g → ((w.setCell ⟨g, 0, none⟩ u).setCell ⟨g, 1, none⟩ v).heap[k]? = w.heap[k]?) ∧ ((w.setCell ⟨g, 0, none⟩ u).setCell ⟨g, 1, none⟩ v).heap.size = w.heap.size ∧
    ∀ o, ((w.setCell ⟨g, 0, none⟩ u).setCell ⟨g, 1, none⟩ v).frozen? ⟨g, o, none⟩ = w.frozen? ⟨g, o, none⟩ := by
  refine ⟨?_, ?_, fun k hk => ?_, by simp, fun o => by simp [go_sem]⟩
  · rw [World.cell?_setCell_other _ _ _ _ (by intro h; simp at h), World.cell?_setCell_same _ _ _ q0]
  · rw [World.cell?_setCell_same _ _ _ (show _ = some v0 by rw [World.cell?_setCell_other _ _ _ _ (by intro h; simp at h)]; exact q1)]
  · rw [Below.heap_setCell _ _ _ _ hk, Below.heap_setCell _ _ _ _ hk]
def At (D : Nat → Prop) : Value → Prop
  | .slice (some a) n _ => 0 < n → D a.block
  | _ => True
theorem At.mono {D D' : Nat → Prop} {v : Value} (h : At D v) (hd : ∀ b, D b → D' b) : At D' v := by
  unfold At at h ⊢
  split
  · exact fun h0 => hd _ (h h0)
  · trivial
theorem At.of_owns {w : World} {base : Nat} {e : TypeId} {k : Nat} {v : Value} {n : Nat} {xs : List Value} (h : w.ownsRow base e k v n xs) : At (base ≤ ·) v := by
  rcases h.2 with ⟨rfl, rfl⟩ | ⟨g, cap, cur, rfl, hb, _⟩
  · trivial
  · exact fun _ => hb
theorem Row.lies {w : World} {v : Value} {xs : List Value} (h : Row w v xs) : At (· < w.heap.size) v := by
  rcases h with ⟨a, c, rfl, rfl⟩ | ⟨b, off, cap, rfl, h0, hc, hbk, hcell⟩
  · cases a
    · trivial
    · exact fun h => absurd h (by omega)
  · exact fun _ => hbk
theorem Row.frame {D : Nat → Prop} {w w' : World} {v : Value} {xs : List Value} (h : Row w v xs) (hat : At D v) (hk : ∀ b, D b → b < w.heap.size → w'.heap[b]? = w.heap[b]?) (hs : w.heap.size ≤ w'.heap.size) : Row w' v xs := by
  rcases h with h | ⟨b, off, cap, rfl, h0, hc, hbk, hcell⟩
  · exact .inl h
  · exact .inr ⟨b, off, cap, rfl, h0, hc, by omega, fun i x hx => by rw [← hcell i x hx]; exact World.cell?_of_block (hk b (hat h0) hbk)⟩
theorem Sl.lies {w : World} {k : Nat} {v : Value} {n : Nat} {xs : List Value} (h : Sl w k v n xs) : At (· < w.heap.size) v := by
  obtain ⟨A, c, rfl, hc, hl, hh⟩ := h
  cases A
  · trivial
  · intro h0
    obtain ⟨b, off, he, hbk, _⟩ := hh h0
    injection he with he
    subst he
    exact hbk
theorem Sl.frame {D : Nat → Prop} {w w' : World} {k : Nat} {v : Value} {n : Nat} {xs : List Value} (h : Sl w k v n xs) (hat : At D v) (hk : ∀ b, D b → b < w.heap.size → w'.heap[b]? = w.heap[b]?) (hs : w.heap.size ≤ w'.heap.size) : Sl w' k v n xs := by
  obtain ⟨A, c, rfl, hc, hl, hh⟩ := h
  refine ⟨A, c, rfl, hc, hl, fun h0 => ?_⟩
  obtain ⟨b, off, rfl, hbk, hcell⟩ := hh h0
  exact ⟨b, off, rfl, by omega, fun j x hx => by rw [← hcell j x hx]; exact World.cell?_of_block (hk b (hat h0) hbk)⟩
end Copyhold

set_option linter.unusedVariables false
namespace Copyhold
open Go Go.RowKit
def BoxT (w : World) (B : Nat) (s : List UInt8) (e : Int) : Prop :=
  w.cell? ⟨B, 0, none⟩ = some (.string ⟨s.toArray⟩) ∧ w.cell? ⟨B, 1, none⟩ = some (.int .i64 e) ∧ w.frozen? ⟨B, 0, none⟩ = false ∧ w.frozen? ⟨B, 1, none⟩ = false
def TakeW (w : World) (B : Nat) (s : List UInt8) (e : Int) (w' : World) : Prop :=
  ∃ w1, Below w.heap.size w w1 ∧ w' = (w1.setCell ⟨B, 0, none⟩ (.string ⟨s.toArray⟩)).setCell ⟨B, 1, none⟩ (.int .i64 e)
theorem BoxT.below {w w' : World} {B : Nat} {s : List UInt8} {e : Int} (h : BoxT w B s e) (hb : Below w.heap.size w w') : BoxT w' B s e := by
  obtain ⟨h0, h1, h2, h3⟩ := h
  have hB := cell_lt h0
  exact ⟨cell_keep hb h0, cell_keep hb h1, (hb.frozen (p := ⟨B, 0, none⟩) hB).trans h2, (hb.frozen (p := ⟨B, 1, none⟩) hB).trans h3⟩
theorem TakeW.box {w w' : World} {B : Nat} {s s' : List UInt8} {e e' : Int} (h : TakeW w B s e w') (hb : BoxT w B s' e') : BoxT w' B s e := by
  obtain ⟨w1, hw, rfl⟩ := h
  obtain ⟨h0, h1, h2, h3⟩ := hb.below hw
  have hp := put2 (w := w1) (g := B) (.string ⟨s.toArray⟩) (.int .i64 e) h0 h1
  exact ⟨hp.1, hp.2.1, (hp.2.2.2.2 0).trans h2, (hp.2.2.2.2 1).trans h3⟩
theorem TakeW.below {w w' a : World} {B base : Nat} {s : List UInt8} {e : Int} (h : TakeW w B s e w') (hb : Below base a w) (hB : base ≤ B) (hs : base ≤ w.heap.size) : Below base a w' := by
  obtain ⟨w1, hw, rfl⟩ := h
  exact ((hb.trans (hw.mono hs)).setCell (p := ⟨B, 0, none⟩) hB _).setCell (p := ⟨B, 1, none⟩) hB _
theorem TakeW.size {w w' : World} {B : Nat} {s : List UInt8} {e : Int} (h : TakeW w B s e w') : w.heap.size ≤ w'.heap.size := by
  obtain ⟨w1, hw, rfl⟩ := h
  have := hw.size
  simpa using this
theorem TakeW.cell {w w' : World} {B : Nat} {s : List UInt8} {e : Int} (h : TakeW w B s e w') {b o : Nat} {v : Value} (hc : w.cell? ⟨b, o, none⟩ = some v) (hne : b ≠ B ∨ 2 ≤ o) : w'.cell? ⟨b, o, none⟩ = some v := by
  obtain ⟨w1, hw, rfl⟩ := h
  rw [World.cell?_setCell_other _ _ _ _ (by intro h; simp at h; omega), World.cell?_setCell_other _ _ _ _ (by intro h; simp at h; omega)]
  exact cell_keep hw hc
theorem TakeW.frozen {w w' : World} {B : Nat} {s : List UInt8} {e : Int} (h : TakeW w B s e w') {b o : Nat} (hc : w.frozen? ⟨b, o, none⟩ = false) (hb : b < w.heap.size) : w'.frozen? ⟨b, o, none⟩ = false := by
  obtain ⟨w1, hw, rfl⟩ := h
  have := (hw.frozen (p := ⟨b, o, none⟩) hb).trans hc
  simpa [go_sem] using this
theorem TakeW.block {w w' : World} {B : Nat} {s : List UInt8} {e : Int} (h : TakeW w B s e w') {k : Nat} (hk : k ≠ B) (hs : k < w.heap.size) : w'.heap[k]? = w.heap[k]? := by
  obtain ⟨w1, hw, rfl⟩ := h
  rw [heap_setCell_far _ _ _ _ (by simpa using hk), heap_setCell_far _ _ _ _ (by simpa using hk)]
  exact hw.block k hs
theorem TakeW.trans {w w1 w2 : World} {B : Nat} {s s1 : List UInt8} {e e1 : Int} (h : TakeW w B s1 e1 w1) (k : TakeW w1 B s e w2) (hB : B < w.heap.size) {s0 : List UInt8} {e0 : Int} (h0 : BoxT w B s0 e0) :
    (∀ b o v, w.cell? ⟨b, o, none⟩ = some v → (b ≠ B ∨ 2 ≤ o) → w2.cell? ⟨b, o, none⟩ = some v) ∧ (∀ b o, b < w.heap.size → w.frozen? ⟨b, o, none⟩ = false → w2.frozen? ⟨b, o, none⟩ = false) ∧ w.heap.size ≤ w2.heap.size ∧ BoxT w2 B s e :=
  ⟨fun b o v hc hne => k.cell (h.cell hc hne) hne, fun b o hb hc => k.frozen (h.frozen hc hb) (Nat.lt_of_lt_of_le hb h.size), Nat.le_trans h.size k.size, k.box (h.box h0)⟩
def TBox (w : World) (B : Nat) (T : TypeId) (cs : Array Value) : Prop := w.heap[B]? = some (.cells cs T (0, 0))
theorem TBox.lt {w : World} {B : Nat} {T : TypeId} {cs : Array Value} (h : TBox w B T cs) : B < w.heap.size := (Array.getElem?_eq_some_iff.1 h).1
theorem TBox.cell {w : World} {B : Nat} {T : TypeId} {cs : Array Value} (h : TBox w B T cs) (o : Nat) : w.cell? ⟨B, o, none⟩ = cs[o]? := by
  unfold TBox at h
  simp [World.cell?, h]
theorem TBox.free {w : World} {B : Nat} {T : TypeId} {cs : Array Value} (h : TBox w B T cs) (o : Nat) : w.frozen? ⟨B, o, none⟩ = false := by
  unfold TBox at h
  simp [World.frozen?, h]
theorem TBox.set {w : World} {B : Nat} {T : TypeId} {cs : Array Value} (h : TBox w B T cs) (o : Nat) (v : Value) : TBox (w.setCell ⟨B, o, none⟩ v) B T (cs.setIfInBounds o v) := by
  unfold TBox at h ⊢
  have hB := (Array.getElem?_eq_some_iff.1 h).1
  simp [World.setCell, Array.getElem?_modify, h]
theorem TBox.far {w : World} {B : Nat} {T : TypeId} {cs : Array Value} (h : TBox w B T cs) (b o : Nat) (v : Value) (hb : B ≠ b) : TBox (w.setCell ⟨b, o, none⟩ v) B T cs := by
  unfold TBox at h ⊢
  rw [heap_setCell_far _ _ _ _ hb]
  exact h
theorem TBox.below {w w' : World} {B : Nat} {T : TypeId} {cs : Array Value} (h : TBox w B T cs) (hb : Below w.heap.size w w') : TBox w' B T cs := by
  unfold TBox at h ⊢
  rw [hb.block B (Array.getElem?_eq_some_iff.1 h).1]
  exact h
theorem TBox.new (w : World) (T : TypeId) (cs : Array Value) : TBox (w.alloc (.cells cs T)) w.heap.size T cs := heap_alloc_new w _
def TakeR (w : World) (B : Nat) (s : List UInt8) (e : Int) (w' : World) : Prop :=
  (∀ T cs, TBox w B T cs → TBox w' B T ((cs.setIfInBounds 0 (.string ⟨s.toArray⟩)).setIfInBounds 1 (.int .i64 e))) ∧
  (∀ k, k ≠ B → k < w.heap.size → w'.heap[k]? = w.heap[k]?) ∧ w.heap.size ≤ w'.heap.size ∧
  (∀ base a, Below base a w → base ≤ B → base ≤ w.heap.size → Below base a w')
theorem TakeW.r {w w' : World} {B : Nat} {s : List UInt8} {e : Int} (h : TakeW w B s e w') : TakeR w B s e w' := by
  refine ⟨fun T cs hT => ?_, fun k hk hs => h.block hk hs, h.size, fun base a hb hB hs => h.below hb hB hs⟩
  obtain ⟨w1, hw, rfl⟩ := h
  exact ((hT.below hw).set 0 _).set 1 _
theorem TakeR.refl {w : World} {B : Nat} {T : TypeId} {s : List UInt8} {e : Int} {cs : Array Value} (h : TBox w B T cs) (h0 : cs[0]? = some (.string ⟨s.toArray⟩)) (h1 : cs[1]? = some (.int .i64 e)) : TakeR w B s e w := by
  refine ⟨fun T' cs' hT => ?_, fun k _ _ => rfl, Nat.le_refl _, fun base a hb _ _ => hb⟩
  have he : Obj.cells cs' T' (0, 0) = .cells cs T (0, 0) := Option.some.inj (hT.symm.trans h)
  simp only [Obj.cells.injEq, and_true] at he
  obtain ⟨rfl, rfl⟩ := he
  have e0 : cs'.setIfInBounds 0 (.string ⟨s.toArray⟩) = cs' := by
    apply Array.ext
    · simp
    · intro i h2 h3
      rw [Array.getElem_setIfInBounds (by simpa using h3)]
      split
      · rename_i hi
        subst hi
        rw [Array.getElem?_eq_getElem h3] at h0
        exact (Option.some.inj h0).symm
      · rfl
  have e1 : cs'.setIfInBounds 1 (.int .i64 e) = cs' := by
    apply Array.ext
    · simp
    · intro i h2 h3
      rw [Array.getElem_setIfInBounds (by simpa using h3)]
      split
      · rename_i hi
        subst hi
        rw [Array.getElem?_eq_getElem h3] at h1
        exact (Option.some.inj h1).symm
      · rfl
  rw [e0, e1]
  exact hT
theorem TakeR.far {w w' : World} {B : Nat} {s : List UInt8} {e : Int} (h : TakeR w B s e w') {R : Nat} {T : TypeId} {cs : Array Value} (hR : TBox w R T cs) (hne : R ≠ B) : TBox w' R T cs := by
  unfold TBox at hR ⊢
  rw [h.2.1 R hne (Array.getElem?_eq_some_iff.1 hR).1]
  exact hR
theorem TakeR.trans {w w1 w2 : World} {B : Nat} {s s1 : List UInt8} {e e1 : Int} (h : TakeR w B s1 e1 w1) (k : TakeR w1 B s e w2) : TakeR w B s e w2 := by
  refine ⟨fun T cs hT => ?_, fun j hj hs => (k.2.1 j hj (Nat.lt_of_lt_of_le hs h.2.2.1)).trans (h.2.1 j hj hs), Nat.le_trans h.2.2.1 k.2.2.1, fun base a hb hB hs => k.2.2.2 base a (h.2.2.2 base a hb hB hs) hB (Nat.le_trans hs h.2.2.1)⟩
  have := k.1 T _ (h.1 T cs hT)
  have e : (((cs.setIfInBounds 0 (.string ⟨s1.toArray⟩)).setIfInBounds 1 (.int .i64 e1)).setIfInBounds 0 (.string ⟨s.toArray⟩)).setIfInBounds 1 (.int .i64 e) = (cs.setIfInBounds 0 (.string ⟨s.toArray⟩)).setIfInBounds 1 (.int .i64 e) := by
    apply Array.ext_getElem?
    intro i
    simp only [Array.getElem?_setIfInBounds, Array.size_setIfInBounds]
    split
    · rfl
    · split
      · rfl
      · rfl
  rw [e] at this
  exact this
end Copyhold
