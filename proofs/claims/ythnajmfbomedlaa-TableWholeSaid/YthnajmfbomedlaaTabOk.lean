/- table.own: a client's row of just this epoch; old memory is as it was. -/
import Derived.Test.YthnajmfbomedlaaTabOwn
set_option linter.unusedVariables false
namespace Go.Proofs.Ythnajmfbomedlaa
open Go.RowKit Copyhold

/-- a row as a value -/
def RowV (w : World) (v : Value) (r : TRow) : Prop := ∃ A c, v = .agg #[.int .i64 r.client, .int .i64 r.epoch, .int .i64 r.done, .slice A r.l.length c] ∧ SlOf DecR w 2 (.slice A r.l.length c) r.l
theorem RowV.below {w w' : World} {v : Value} {r : TRow} (h : RowV w v r) (hb : Below w.heap.size w w') : RowV w' v r := by
  obtain ⟨A, c, rfl, h⟩ := h
  exact ⟨A, c, rfl, SlOf.below h hb⟩

/-- what own answers where there is one -/
def OwnIs (w : World) (r : TRow) (e : Ending) (w' : World) : Prop := ∃ v, e = .returned (.tuple #[v, .int .i64 0]) ∧ RowV w' v r ∧ Below w.heap.size w w'

set_option maxHeartbeats 4000000 in
theorem own_ok (rs : List TRow) (A : Option Addr) (c : Nat) (n ep sq : Int) (w : World) (hr : RowsIn w (.slice A rs.length c) rs) (hn : rs.length ≤ 8796093022207) (n1 : -9223372036854775808 ≤ n) (n2 : n ≤ 9223372036854775807)
    (h1 : 0 ≤ n) (h2 : 1 ≤ ep) (h3 : 1 ≤ sq) (e2 : ep ≤ 9223372036854775807) (s2 : sq ≤ 9223372036854775807) (i : Nat) (hp : placeN (rs.map (·.client)) n = (i, true)) (r : TRow) (hri : rs[i]? = some r) (hep : r.epoch = ep) :
    Calls Try.prog 27 #[.slice A rs.length c, .int .i64 n, .int .i64 ep, .int .i64 sq] w (OwnIs w r) := by
  have HP := Lib.hid hp
  have d1 : decide (n < 0) = false := by rw [decide_eq_false_iff_not]; omega
  have d2 : decide (ep < 1) = false := by rw [decide_eq_false_iff_not]; omega
  have d3 : decide (sq < 1) = false := by rw [decide_eq_false_iff_not]; omega
  have d4 : decide (ep < ep) = false := by simp
  obtain ⟨W0, hW0⟩ : ∃ W0, W0 = w.alloc (.cells #[.int .i64 0, .int .i64 0, .int .i64 0, .slice none 0 0] 63) := ⟨_, rfl⟩
  have hb0 : Below w.heap.size w W0 := by rw [hW0]; exact (Below.refl _ _).alloc (Nat.le_refl _) _
  have r0 : W0.cell? ⟨w.heap.size, 0, none⟩ = some (.int .i64 0) := by rw [hW0]; exact cell_new _ _ _ 0
  have r1 : W0.cell? ⟨w.heap.size, 1, none⟩ = some (.int .i64 0) := by rw [hW0]; exact cell_new _ _ _ 1
  have r2 : W0.cell? ⟨w.heap.size, 2, none⟩ = some (.int .i64 0) := by rw [hW0]; exact cell_new _ _ _ 2
  have r3 : W0.cell? ⟨w.heap.size, 3, none⟩ = some (.slice none 0 0) := by rw [hW0]; exact cell_new _ _ _ 3
  have fz : ∀ j, W0.frozen? ⟨w.heap.size, j, none⟩ = false := fun j => by rw [hW0]; simp [go_sem]
  have hs0 : W0.heap.size = w.heap.size + 1 := by rw [hW0]; simp
  have HR := Lib.hid (hr.below hb0)
  have HRW := Lib.hid hr
  have HW := Lib.hid hW0
  have HB0 := Lib.hid hb0
  clear hr hW0 hb0 hp
  obtain ⟨hil, hie⟩ := List.getElem?_eq_some_iff.1 hri
  obtain ⟨b, off, A', c', rfl, hbk, k0, k1, k2, k3, hsl, hll, _, _, _⟩ := HRW.out.at i hil
  rw [hie] at k0 k1 k2 k3 hsl
  rw [hep] at k1
  have HSL := Lib.hid hsl
  have HE := Lib.hid hep
  have hi0 : (0 : Int) ≤ (i : Int) := by omega
  have hi1 : (i : Int) < (rs.length : Int) := by omega
  have K0 := Lib.hid k0
  have K1 := Lib.hid k1
  have K2 := Lib.hid k2
  have K3 := Lib.hid k3
  clear hsl hie hep hri k0 k1 k2 k3
  go_enter Try.func27, Try.ntmps27
  go_wp2_with fail
  rw [← HW.out]
  refine (table_rowOf rs _ c n _ HR.out hn n1 n2).mono ?_
  rintro e w1 ⟨rfl, hb1⟩
  have q0 := cell_keep hb1 r0
  have q1 := cell_keep hb1 r1
  have q2 := cell_keep hb1 r2
  have q3 := cell_keep hb1 r3
  have hf := fun j => (bcell hb1).2 w.heap.size j (by rw [hs0]; omega)
  have f0 := (hf 0).trans (fz 0)
  have f1 := (hf 1).trans (fz 1)
  have f2 := (hf 2).trans (fz 2)
  have f3 := (hf 3).trans (fz 3)
  have hb11 := below_trans HB0.out hb1 HB0.out.size
  have k0 := cell_keep hb11 K0.out
  have k1 := cell_keep hb11 K1.out
  have k2 := cell_keep hb11 K2.out
  have k3 := cell_keep hb11 K3.out
  have hbne : b < w.heap.size := cell_lt K0.out
  have HB1 := Lib.hid hb11
  rw [HP.out]
  simp only
  clear hf fz r0 r1 r2 r3 hb1 hb11
  go_wp2_with fail
  have hfin : ∀ W, Below w.heap.size w W → OwnIs w r (.returned (.tuple #[.agg #[.int .i64 r.client, .int .i64 ep, .int .i64 r.done, .slice A' r.l.length c'], .int .i64 0])) W := fun W hW => ⟨_, rfl, ⟨A', c', by rw [HE.out], HSL.out.below hW⟩, hW⟩
  refine bodyPost_ret (v := .tuple #[.agg #[.int .i64 r.client, .int .i64 ep, .int .i64 r.done, .slice A' r.l.length c'], .int .i64 0]) (by simp [results, Try.results27, go_sem, q0, q1, q2, q3]) rfl (hfin _ ?_)
  repeat (first | exact HB1.out | (refine Below.setCell ?_ (by simp <;> omega) _))
end Go.Proofs.Ythnajmfbomedlaa
