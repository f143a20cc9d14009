/- A slice of slices in memory, over any program: what it reads as, piece by piece; the sums and rows of its pieces. For slices.Concat. -/
import Derived.Test.YtgcjfhgkkgocpaaSlice
import Derived.Lib.AppendZerosOnto
set_option linter.unusedVariables false
namespace Copyhold
open Go Go.RowKit
abbrev Piece := Value × Nat × List Value
def Cats (w : World) (k : Nat) (v : Value) (ss : List Piece) : Prop :=
  Sl w 1 v ss.length (ss.map (·.1)) ∧ ∀ s ∈ ss, Sl w k s.1 s.2.1 s.2.2 ∧ ∀ u ∈ s.2.2, u.oneCell' = true
theorem Cats.below {w w' : World} {k : Nat} {v : Value} {ss : List Piece} (h : Cats w k v ss) (hb : Below w.heap.size w w') : Cats w' k v ss :=
  ⟨h.1.below hb, fun s hs => ⟨(h.2 s hs).1.below hb, (h.2 s hs).2⟩⟩
structure SlIs (w : World) (k : Nat) (A : Option Addr) (n c : Nat) (p : Piece) : Prop where
  n_is : p.2.1 = n
  sl : Sl w k (.slice A n c) n p.2.2
theorem Cats.at {w : World} {k : Nat} {A : Option Addr} {c : Nat} {ss : List Piece} (h : Cats w k (.slice A ss.length c) ss) (i : Nat) (hi : i < ss.length) :
    ∃ b off A' n' c', A = some ⟨b, off, none⟩ ∧ b < w.heap.size ∧ w.cell? ⟨b, off + i, none⟩ = some (.slice A' n' c') ∧ SlIs w k A' n' c' ss[i] ∧ ∀ u ∈ ss[i].2.2, u.oneCell' = true := by
  obtain ⟨h1, h2⟩ := h
  obtain ⟨b, off, rfl, hb, _, _, hcell⟩ := h1.at (by omega)
  obtain ⟨g1, g2⟩ := h2 ss[i] (List.getElem_mem _)
  obtain ⟨A', c', e, _, _⟩ := g1.shape
  refine ⟨b, off, A', ss[i].2.1, c', rfl, hb, ?_, ⟨rfl, by rw [← e]; exact g1⟩, g2⟩
  rw [← e]
  exact hcell i _ (by rw [List.getElem?_map, List.getElem?_eq_getElem hi]; rfl)
def RetOwn (w : World) (t : TypeId) (k n : Nat) (xs : List Value) (e : Ending) (w' : World) : Prop := ∃ v, e = .returned v ∧ w'.ownsRow w.heap.size t k v n xs ∧ Below w.heap.size w w'
theorem wpList_append_run' {P : Program} {w : World} {ops : Array Oper} {rest : List Oper} {o : Oper} {a : Act} {Q : Exit → Act → World → Prop} (hgd : o.guard = none) (s x : Operand) (t t2 : TypeId)
    (ho : o.op = .call { callee := .builtin .append, args := #[s, x], argTypes := #[t, t2] }) (v v2 v' : Value) (w' : World) (hs : a.eval s = v) (hx : a.eval x = v2)
    (hrun : (Builtin.append_ #[t, t2] o.type #[v, v2]).run P w = .ok v' w') (h : wpList P ops Q rest (a.put o.dst v') w') : wpList P ops Q (o :: rest) a w :=
  wpList_plain hgd fun K hK => by
    unfold Oper.wp
    simp [execOp, ho, resolve, invoke, builtin, hs, hx, hrun, Result.andThen]
    exact hK _ _ h
theorem zeros_run {P : Program} {t tn e : TypeId} {z : Value} {size bytes : Nat} (E : Elem P t e z size bytes) (htn : P.underlying tn = some (.int .i64)) (n : Nat) (h0 : 0 < n) (hn : n * bytes ≤ 140737488355328) (hn2 : n ≤ 1000000000) (w : World) :
    ∃ G w', (∀ ty, (Builtin.append_ #[t, tn] ty #[.slice none 0 0, .int .i64 (n : Int)]).run P w = .ok (.slice (some ⟨w.heap.size, 0, none⟩) n G) w') ∧ n ≤ G ∧ G ≤ 9223372036854775807 ∧ w'.ownsRow w.heap.size e size (.slice (some ⟨w.heap.size, 0, none⟩) 0 G) 0 [] ∧ Below w.heap.size w w' := by
  obtain ⟨ht, hinf, hzs, hsz⟩ := E
  obtain ⟨i, hi, hz, hsize, hby⟩ := info_of hinf
  have hold : (Builtin.firstCells i.size 0 (.slice none 0 0)).run P w.drew = .ok ([] : List Value).toArray w.drew := run_firstCells_none w.drew i.size 0 0 0
  have hG := grownCap_ge w (0 + n) 0 e
  have hG2 := grownCap_le_maxLen w (0 + n) 0 e (by unfold maxLen; omega)
  have hrun : ∀ ty, _ := fun ty => Lib.run_append_grow_zeros w t tn ty e i z .i64 .i64 ht htn hi hz none 0 0 [] hold n (by omega) (by omega) (by omega) (by omega) (by rw [hby]; omega) (growslice_fits (by omega) (by rw [hby, Nat.zero_add]; omega))
  refine ⟨grownCap w (0 + n) 0 e, w.drew.alloc (.cells (([] : List Value).toArray ++ Builtin.zeroCells z.cells n ++ Builtin.zeroCells z.cells (grownCap w (0 + n) 0 e - (0 + n))) e), ?_, by omega, by unfold maxLen at hG2; omega, ?_, ?_⟩
  · intro ty
    have := hrun ty
    rw [show Value.slice (some ⟨w.heap.size, 0, none⟩) (0 + n) (grownCap w (0 + n) 0 e) = Value.slice (some ⟨w.heap.size, 0, none⟩) n (grownCap w (0 + n) 0 e) from by rw [Nat.zero_add]] at this
    exact this
  · refine World.ownsRow_made w.drew _ _ (Nat.le_refl _) hG2 ?_
    have hzc : ∀ m, (Builtin.zeroCells z.cells m).size = m * size := fun m => by simp [Builtin.zeroCells, hzs]
    simp only [Array.size_append, hzc, List.size_toArray, List.length_nil]
    rw [Nat.zero_add, ← Nat.add_mul]
    congr 1
    omega
  · exact (below_dn (Below.refl _ _) 1).alloc (Nat.le_refl _) _
end Copyhold
