/- table.taking's decision: it answers as the document says, whatever the error is. -/
import Derived.Test.YthnajmfbomedlaaTabTak
set_option linter.unusedVariables false
set_option linter.unusedSimpArgs false
namespace Go.Proofs.Ythnajmfbomedlaa
open Go.RowKit Copyhold

set_option maxHeartbeats 4000000 in
theorem taking_decision (l : List UInt8) (err : Int) (o : Bool) (B : Nat) (T : TypeId) (w : World) (hb : TBox w B T (bxT l err o)) (hl : l.length ≤ 140737488355328) :
    Calls Try.prog 57 #[.pointer (some ⟨B, 0, none⟩)] w fun e w' => e = .returned (.agg #[.int .i64 (decSt l err o).1.1, .bool (decSt l err o).1.2]) ∧ TkW w B T (bxT (decSt l err o).2.2.1 (decSt l err o).2.2.2 (decSt l err o).2.1) w' := by
  have hB := hb.lt
  have hD : decSt l err o = (((numSt l err).1, (cntSt (numSt l err).2.1 (numSt l err).2.2 18446744073709551615).1 == 1), o || decide (1 < (cntSt (numSt l err).2.1 (numSt l err).2.2 18446744073709551615).1), (cntSt (numSt l err).2.1 (numSt l err).2.2 18446744073709551615).2) := rfl
  have hl1 := (numSt_bd l err).2
  have HT := Lib.hid (fun W (h : TBox W B T (bxT l err o)) => taking_number l err o B T W h hl)
  generalize numSt l err = x at *
  obtain ⟨q, r, e⟩ := x
  simp only at hD HT hl1
  have hbd := (cntSt_bd r e 18446744073709551615).1
  have HU := Lib.hid (fun W (h : TBox W B T (bxT r e o)) => taking_take r e o 18446744073709551615 B T W h (by omega) (by decide) (by decide))
  generalize cntSt r e 18446744073709551615 = y at *
  obtain ⟨y, r', e'⟩ := y
  simp only at hD HU hbd
  obtain ⟨b1, b2⟩ := hbd
  rw [hD]
  simp only
  obtain ⟨W0, hW0⟩ : ∃ W0, W0 = w.alloc (.cells #[.int .i64 0, .bool false] 65) := ⟨_, rfl⟩
  have hb0 : Below w.heap.size w W0 := by rw [hW0]; exact (Below.refl _ _).alloc (Nat.le_refl _) _
  have t0 : TBox W0 w.heap.size 65 #[.int .i64 0, .bool false] := by rw [hW0]; exact TBox.new _ _ _
  have hs0 : w.heap.size < W0.heap.size := t0.lt
  have HK0 := Lib.hid (TkW.below hb hb0)
  have HX := Lib.hid t0
  have HW := Lib.hid hW0
  clear hb hD t0 hb0 hW0
  obtain ⟨o', ho'⟩ : ∃ o', o' = (o || decide (1 < y)) := ⟨_, rfl⟩
  rw [← ho']
  have hcase : (o = true ∧ o' = true) ∨ (o = false ∧ o' = decide (1 < y)) := by subst ho'; cases o <;> simp
  clear ho'
  rcases hcase with ⟨rfl, rfl⟩ | ⟨rfl, rfl⟩
  · go_enter Try.func57, Try.ntmps57
    go_wp2_with fail
    rw [← HW.out]
    refine (HT.out W0 HK0.out.1).mono ?_
    rintro e1 w1 ⟨rfl, hr1⟩
    have HK1 := Lib.hid (HK0.out.trans hr1)
    have HX1 := Lib.hid (hr1.far HX.out (by omega))
    clear hr1
    go_wp2_with fail
    refine (HU.out w1 HK1.out.1).mono ?_
    rintro e2 w2 ⟨rfl, hr2⟩
    have t2 := HK1.out.trans hr2
    have x2 := hr2.far HX1.out (by omega)
    have c2 : w2.cell? ⟨B, 2, none⟩ = some (.bool true) := t2.1.cell 2
    have f2 := t2.1.free 2
    have hs2 : w.heap.size < w2.heap.size := x2.lt
    have k3 := t2.set 2 (.bool true)
    have x3 := x2.far B 2 (.bool true) (by omega)
    have p0 : w2.cell? ⟨w.heap.size, 0, none⟩ = some (.int .i64 0) := x2.cell 0
    have p1 : w2.cell? ⟨w.heap.size, 1, none⟩ = some (.bool false) := x2.cell 1
    have f0 : w2.frozen? ⟨w.heap.size, 0, none⟩ = false := x2.free 0
    have f1 : w2.frozen? ⟨w.heap.size, 1, none⟩ = false := x2.free 1
    have hp := put2 (w := w2.setCell ⟨B, 2, none⟩ (.bool true)) (g := w.heap.size) (.int .i64 q) (.bool (y == 1)) (x3.cell 0) (x3.cell 1)
    have q0 := hp.1
    have q1 := hp.2.1
    have hk4 : TkW w B T (bxT r' e' true) (((w2.setCell ⟨B, 2, none⟩ (.bool true)).setCell ⟨w.heap.size, 0, none⟩ (.int .i64 q)).setCell ⟨w.heap.size, 1, none⟩ (.bool (y == 1))) := by
      refine ⟨((k3.1.far _ 0 _ (by omega)).far _ 1 _ (by omega)), fun k hk hs => ?_, ?_, fun base a hb hB' hs => ?_⟩
      · rw [hp.2.2.1 k (by omega)]
        exact k3.2.1 k hk hs
      · have := hp.2.2.2.1
        have := k3.2.2.1
        omega
      · exact ((k3.2.2.2 base a hb hB' hs).setCell (p := ⟨w.heap.size, 0, none⟩) hs _).setCell (p := ⟨w.heap.size, 1, none⟩) hs _
    have HK4 := Lib.hid hk4
    clear hr2 t2 x2 x3 k3 hk4 hp
    go_wp2_with fail
    refine bodyPost_ret (v := .agg #[.int .i64 q, .bool (y == 1)]) (by simp [results, Try.results57, go_sem, q0, q1]) rfl ⟨rfl, HK4.out⟩
  · go_enter Try.func57, Try.ntmps57
    go_wp2_with fail
    rw [← HW.out]
    refine (HT.out W0 HK0.out.1).mono ?_
    rintro e1 w1 ⟨rfl, hr1⟩
    have HK1 := Lib.hid (HK0.out.trans hr1)
    have HX1 := Lib.hid (hr1.far HX.out (by omega))
    clear hr1
    go_wp2_with fail
    refine (HU.out w1 HK1.out.1).mono ?_
    rintro e2 w2 ⟨rfl, hr2⟩
    have t2 := HK1.out.trans hr2
    have x2 := hr2.far HX1.out (by omega)
    have c2 : w2.cell? ⟨B, 2, none⟩ = some (.bool false) := t2.1.cell 2
    have f2 := t2.1.free 2
    have hs2 : w.heap.size < w2.heap.size := x2.lt
    have k3 := t2.set 2 (.bool (decide (1 < y)))
    have x3 := x2.far B 2 (.bool (decide (1 < y))) (by omega)
    have p0 : w2.cell? ⟨w.heap.size, 0, none⟩ = some (.int .i64 0) := x2.cell 0
    have p1 : w2.cell? ⟨w.heap.size, 1, none⟩ = some (.bool false) := x2.cell 1
    have f0 : w2.frozen? ⟨w.heap.size, 0, none⟩ = false := x2.free 0
    have f1 : w2.frozen? ⟨w.heap.size, 1, none⟩ = false := x2.free 1
    have hp := put2 (w := w2.setCell ⟨B, 2, none⟩ (.bool (decide (1 < y)))) (g := w.heap.size) (.int .i64 q) (.bool (y == 1)) (x3.cell 0) (x3.cell 1)
    have q0 := hp.1
    have q1 := hp.2.1
    have hk4 : TkW w B T (bxT r' e' (decide (1 < y))) (((w2.setCell ⟨B, 2, none⟩ (.bool (decide (1 < y)))).setCell ⟨w.heap.size, 0, none⟩ (.int .i64 q)).setCell ⟨w.heap.size, 1, none⟩ (.bool (y == 1))) := by
      refine ⟨((k3.1.far _ 0 _ (by omega)).far _ 1 _ (by omega)), fun k hk hs => ?_, ?_, fun base a hb hB' hs => ?_⟩
      · rw [hp.2.2.1 k (by omega)]
        exact k3.2.1 k hk hs
      · have := hp.2.2.2.1
        have := k3.2.2.1
        omega
      · exact ((k3.2.2.2 base a hb hB' hs).setCell (p := ⟨w.heap.size, 0, none⟩) hs _).setCell (p := ⟨w.heap.size, 1, none⟩) hs _
    have HK4 := Lib.hid hk4
    clear hr2 t2 x2 x3 k3 hk4 hp
    go_wp2_with fail
    refine bodyPost_ret (v := .agg #[.int .i64 q, .bool (y == 1)]) (by simp [results, Try.results57, go_sem, q0, q1]) rfl ⟨rfl, HK4.out⟩
end Go.Proofs.Ythnajmfbomedlaa
