/- copyholdref07.Same: it answers as the document says; old memory is as it was. -/
import Derived.Test.YtoinafcjkbdjnaaNodeShown
set_option linter.unusedVariables false
set_option linter.unusedSimpArgs false
namespace Go.Proofs.Ytoinafcjkbdjnaa
open Go.RowKit Copyhold Copyhold.Name

set_option maxHeartbeats 4000000 in
theorem ref07_Same (a b : Nd) (v u : Value) (w : World) (hv : NodeV w v a) (hu : NodeV w u b) (ha : OkN a) (hb : OkN b) (na : a.l.length ≤ 1000000) (nb : b.l.length ≤ 1000000) :
    Calls Try.prog 13 #[v, u] w fun e w' => e = .returned (.bool (sameN a b)) ∧ Below w.heap.size w w' := by
  obtain ⟨A, c, rfl, hE⟩ := hv
  obtain ⟨B, d, rfl, hF⟩ := hu
  obtain ⟨i1, k1, l1, t1, e1⟩ := a
  obtain ⟨i2, k2, l2, t2, e2⟩ := b
  simp only at hE hF na nb ⊢
  have hsame : sameN ⟨i1, k1, l1, t1, e1⟩ ⟨i2, k2, l2, t2, e2⟩ = (i1 == i2 && k1 == k2 && l1 == l2 && t1 == t2 && e1 == e2) := rfl
  have HSM := Lib.hid hsame
  obtain ⟨W0, hW0⟩ : ∃ W0, W0 = (w.alloc (.cells #[.int .i64 i1, .int .i64 k1, .int .i64 l1, .string ⟨t1.toArray⟩, .slice A e1.length c] 24)).alloc (.cells #[.int .i64 i2, .int .i64 k2, .int .i64 l2, .string ⟨t2.toArray⟩, .slice B e2.length d] 24) := ⟨_, rfl⟩
  have hb0 : Below w.heap.size w W0 := by rw [hW0]; exact ((Below.refl _ _).alloc (Nat.le_refl _) _).alloc (by simp) _
  have HR := Lib.hid (ref06_Same e1 e2 A B c d W0 (hE.below hb0) (hF.below hb0) na nb)
  have x0 : W0.cell? ⟨w.heap.size, 0, none⟩ = some (.int .i64 i1) := by rw [hW0]; exact cell_alloc _ (cell_new _ _ _ 0)
  have x1 : W0.cell? ⟨w.heap.size, 1, none⟩ = some (.int .i64 k1) := by rw [hW0]; exact cell_alloc _ (cell_new _ _ _ 1)
  have x2 : W0.cell? ⟨w.heap.size, 2, none⟩ = some (.int .i64 l1) := by rw [hW0]; exact cell_alloc _ (cell_new _ _ _ 2)
  have x3 : W0.cell? ⟨w.heap.size, 3, none⟩ = some (.string ⟨t1.toArray⟩) := by rw [hW0]; exact cell_alloc _ (cell_new _ _ _ 3)
  have y0 : W0.cell? ⟨w.heap.size + 1, 0, none⟩ = some (.int .i64 i2) := by rw [hW0]; simp [go_sem]
  have y1 : W0.cell? ⟨w.heap.size + 1, 1, none⟩ = some (.int .i64 k2) := by rw [hW0]; simp [go_sem]
  have y2 : W0.cell? ⟨w.heap.size + 1, 2, none⟩ = some (.int .i64 l2) := by rw [hW0]; simp [go_sem]
  have y3 : W0.cell? ⟨w.heap.size + 1, 3, none⟩ = some (.string ⟨t2.toArray⟩) := by rw [hW0]; simp [go_sem]
  have HXY := Lib.hid (And.intro x0 (And.intro x1 (And.intro x2 (And.intro x3 (And.intro y0 (And.intro y1 (And.intro y2 y3)))))))
  have HW := Lib.hid hW0
  have HB0 := Lib.hid hb0
  clear hE hF hW0 hb0 hsame x0 x1 x2 x3 y0 y1 y2 y3
  generalize (e1 == e2) = q at *
  generalize sameN ⟨i1, k1, l1, t1, e1⟩ ⟨i2, k2, l2, t2, e2⟩ = s at *
  cases q
  · rw [Bool.and_false] at HSM
    go_enter Try.func13, Try.ntmps13
    go_wp2_with fail
    rw [← HW.out]
    refine HR.out.mono ?_
    rintro e w1 ⟨rfl, n, rfl⟩
    obtain ⟨x0, x1, x2, x3, y0, y1, y2, y3⟩ := HXY.out
    go_wp2_with fail
    go_ret
    exact ⟨by rw [HSM.out]; rfl, below_dn HB0.out _⟩
  · rw [Bool.and_true] at HSM
    cases g1 : (i1 == i2)
    · rw [g1] at HSM
      try simp only [Bool.false_and, Bool.and_false, Bool.true_and, Bool.and_true] at HSM
      go_enter Try.func13, Try.ntmps13
      go_wp2_with fail
      rw [← HW.out]
      refine HR.out.mono ?_
      rintro e w1 ⟨rfl, n, rfl⟩
      obtain ⟨x0, x1, x2, x3, y0, y1, y2, y3⟩ := HXY.out
      go_wp2_with fail
      go_ret
      exact ⟨by rw [HSM.out]; rfl, below_dn HB0.out _⟩
    · rw [g1] at HSM
      try simp only [Bool.false_and, Bool.and_false, Bool.true_and, Bool.and_true] at HSM
      cases g2 : (k1 == k2)
      · rw [g2] at HSM
        try simp only [Bool.false_and, Bool.and_false, Bool.true_and, Bool.and_true] at HSM
        go_enter Try.func13, Try.ntmps13
        go_wp2_with fail
        rw [← HW.out]
        refine HR.out.mono ?_
        rintro e w1 ⟨rfl, n, rfl⟩
        obtain ⟨x0, x1, x2, x3, y0, y1, y2, y3⟩ := HXY.out
        go_wp2_with fail
        go_ret
        exact ⟨by rw [HSM.out]; rfl, below_dn HB0.out _⟩
      · rw [g2] at HSM
        try simp only [Bool.false_and, Bool.and_false, Bool.true_and, Bool.and_true] at HSM
        cases g3 : (l1 == l2)
        · rw [g3] at HSM
          try simp only [Bool.false_and, Bool.and_false, Bool.true_and, Bool.and_true] at HSM
          go_enter Try.func13, Try.ntmps13
          go_wp2_with fail
          rw [← HW.out]
          refine HR.out.mono ?_
          rintro e w1 ⟨rfl, n, rfl⟩
          obtain ⟨x0, x1, x2, x3, y0, y1, y2, y3⟩ := HXY.out
          go_wp2_with fail
          go_ret
          exact ⟨by rw [HSM.out]; rfl, below_dn HB0.out _⟩
        · rw [g3] at HSM
          try simp only [Bool.false_and, Bool.and_false, Bool.true_and, Bool.and_true] at HSM
          cases g4 : (t1 == t2)
          · rw [g4] at HSM
            try simp only [Bool.false_and, Bool.and_false, Bool.true_and, Bool.and_true] at HSM
            go_enter Try.func13, Try.ntmps13
            go_wp2_with fail
            rw [← HW.out]
            refine HR.out.mono ?_
            rintro e w1 ⟨rfl, n, rfl⟩
            obtain ⟨x0, x1, x2, x3, y0, y1, y2, y3⟩ := HXY.out
            go_wp2_with fail
            go_ret
            exact ⟨by rw [HSM.out]; rfl, below_dn HB0.out _⟩
          · rw [g4] at HSM
            try simp only [Bool.false_and, Bool.and_false, Bool.true_and, Bool.and_true] at HSM
            go_enter Try.func13, Try.ntmps13
            go_wp2_with fail
            rw [← HW.out]
            refine HR.out.mono ?_
            rintro e w1 ⟨rfl, n, rfl⟩
            obtain ⟨x0, x1, x2, x3, y0, y1, y2, y3⟩ := HXY.out
            go_wp2_with fail
            go_ret
            exact ⟨by rw [HSM.out]; rfl, below_dn HB0.out _⟩
end Go.Proofs.Ytoinafcjkbdjnaa
