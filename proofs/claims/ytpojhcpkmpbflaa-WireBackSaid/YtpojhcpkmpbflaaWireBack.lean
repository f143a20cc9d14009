/- Proved: copyholdlaw15.WireBack returns true for every message, answer and text, and leaves them as they were: what was laid is taken as it was. No condition beyond the form's own reach. -/
import Derived.Test.YtpojhcpkmpbflaaWireLawK
import Derived.Test.YtpojhcpkmpbflaaWireTk5
import Derived.Test.YtpojhcpkmpbflaaRef15S
import Derived.Test.YtpojhcpkmpbflaaRefLong
import Derived.Test.YtpojhcpkmpbflaaLaw14
namespace Go.Proofs.Ytpojhcpkmpbflaa.wireBack
open Go.ChangeShapes Go.WideShapes Go.ChangeAt Go.RowKit Copyhold
open Go.ChangeMaps (open_string shut_string)
set_option linter.unusedVariables false
set_option linter.unusedSimpArgs false

theorem sum_names (ls : List (List UInt8)) (n : Nat) (h : ∀ l ∈ ls, l.length ≤ n) : (ls.map List.length).sum ≤ ls.length * n := by
  induction ls with
  | nil => simp
  | cons a r ih =>
    have h1 := h a List.mem_cons_self
    have h2 := ih (fun l hl => h l (List.mem_cons_of_mem _ hl))
    simp only [List.map_cons, List.sum_cons, List.length_cons, Nat.add_mul, Nat.one_mul]
    omega

set_option maxRecDepth 100000 in
set_option maxHeartbeats 16000000 in
theorem walk (w : World) (m1 : Int) (wm1 : (Lit.int .i64 m1).wf = true) (m2 : Int) (wm2 : (Lit.int .i64 m2).wf = true) (m3 : Int) (wm3 : (Lit.int .i64 m3).wf = true) (m4 : Int) (wm4 : (Lit.int .i64 m4).wf = true) (m5 : Int) (wm5 : (Lit.int .i64 m5).wf = true) (m6 : Int) (wm6 : (Lit.int .i64 m6).wf = true) (k1 : Int) (wk1 : (Lit.int .i64 k1).wf = true) (k2 : Int) (wk2 : (Lit.int .i64 k2).wf = true) (k3 : Int) (wk3 : (Lit.int .i64 k3).wf = true) (k4 : Int) (wk4 : (Lit.int .i64 k4).wf = true) (k5 : Int) (wk5 : (Lit.int .i64 k5).wf = true) (t1 : List UInt8) (zt1 : t1.length ≤ 140737488351232) (t2 : List UInt8) (zt2 : t2.length ≤ 140737488351232) (t3 : List UInt8) (zt3 : t3.length ≤ 140737488351232) (r1 : Int) (wr1 : (Lit.int .i64 r1).wf = true) (r2 : Int) (wr2 : (Lit.int .i64 r2).wf = true) (r3 : Int) (wr3 : (Lit.int .i64 r3).wf = true) (r4 : Int) (wr4 : (Lit.int .i64 r4).wf = true) (r5 : Int) (wr5 : (Lit.int .i64 r5).wf = true) (r6 : Int) (wr6 : (Lit.int .i64 r6).wf = true) (r7 : Int) (wr7 : (Lit.int .i64 r7).wf = true) (r8 : Int) (wr8 : (Lit.int .i64 r8).wf = true) (r9 : Int) (wr9 : (Lit.int .i64 r9).wf = true) (tx : List UInt8) (ztx : tx.length ≤ 140737488351232) (nv : Value) (ls : List (List UInt8)) (hrow : Row w nv (ls.map strV)) (hll : ls.length ≤ 8796093022207 ∧ ∀ l ∈ ls, l.length ≤ 140737488351232) (more : List UInt8) (zm : more.length ≤ 140737488351232) :
    Calls Try.prog 5 #[.agg #[.int .i64 m1, .int .i64 m2, .int .i64 m3, .int .i64 m4, .int .i64 m5, .int .i64 m6, .int .i64 k1, .int .i64 k2, .int .i64 k3, .int .i64 k4, .int .i64 k5, .string ⟨t1.toArray⟩, .string ⟨t2.toArray⟩, .string ⟨t3.toArray⟩], .agg #[.int .i64 r1, .int .i64 r2, .int .i64 r3, .int .i64 r4, .int .i64 r5, .int .i64 r6, .int .i64 r7, .int .i64 r8, .int .i64 r9, .string ⟨tx.toArray⟩, nv], .string ⟨more.toArray⟩] w fun e w' => e = .returned (.bool true) ∧ Below w.heap.size w w' := by
  obtain ⟨A, cp, rfl⟩ := hrow.shape
  rw [List.length_map] at hrow ⊢
  obtain ⟨hll, hlz⟩ := hll
  have im : I64 m1 ∧ I64 m2 ∧ I64 m3 ∧ I64 m4 ∧ I64 m5 ∧ I64 m6 := ⟨i64_of wm1, i64_of wm2, i64_of wm3, i64_of wm4, i64_of wm5, i64_of wm6⟩
  have ik : I64 k1 ∧ I64 k2 ∧ I64 k3 ∧ I64 k4 ∧ I64 k5 := ⟨i64_of wk1, i64_of wk2, i64_of wk3, i64_of wk4, i64_of wk5⟩
  have ir : I64 r1 ∧ I64 r2 ∧ I64 r3 ∧ I64 r4 ∧ I64 r5 ∧ I64 r6 ∧ I64 r7 ∧ I64 r8 ∧ I64 r9 := ⟨i64_of wr1, i64_of wr2, i64_of wr3, i64_of wr4, i64_of wr5, i64_of wr6, i64_of wr7, i64_of wr8, i64_of wr9⟩
  have HI := Lib.hid (And.intro im ir)
  have hok := fun h => short_ok (c := ⟨k1, k2, k3, k4, k5, t1, t2, t3⟩) h ik
  have HSH := Lib.hid (fun W => law_short ⟨k1, k2, k3, k4, k5, t1, t2, t3⟩ W (by simp only; omega) (by simp only; omega) (by simp only; omega))
  unfold callV at HSH
  simp only at HSH
  clear im ik ir wm1 wm2 wm3 wm4 wm5 wm6 wk1 wk2 wk3 wk4 wk5 wr1 wr2 wr3 wr4 wr5 wr6 wr7 wr8 wr9
  cases hsa : shortC ⟨k1, k2, k3, k4, k5, t1, t2, t3⟩ with
  | false =>
    have HA := Lib.hid hsa
    clear hok hsa
    obtain ⟨W0, hW0⟩ : ∃ W0, W0 = (w.alloc (.cells #[.int .i64 m1, .int .i64 m2, .int .i64 m3, .int .i64 m4, .int .i64 m5, .int .i64 m6, .int .i64 k1, .int .i64 k2, .int .i64 k3, .int .i64 k4, .int .i64 k5, .string ⟨t1.toArray⟩, .string ⟨t2.toArray⟩, .string ⟨t3.toArray⟩] 25)).alloc (.cells #[.int .i64 r1, .int .i64 r2, .int .i64 r3, .int .i64 r4, .int .i64 r5, .int .i64 r6, .int .i64 r7, .int .i64 r8, .int .i64 r9, .string ⟨tx.toArray⟩, .slice A ls.length cp] 31) := ⟨_, rfl⟩
    have hb0 : Below w.heap.size w W0 := by rw [hW0]; exact ((Below.refl _ _).alloc (Nat.le_refl _) _).alloc (by simp) _
    have Hm0 := Lib.hid (show TBox W0 w.heap.size 25 #[.int .i64 m1, .int .i64 m2, .int .i64 m3, .int .i64 m4, .int .i64 m5, .int .i64 m6, .int .i64 k1, .int .i64 k2, .int .i64 k3, .int .i64 k4, .int .i64 k5, .string ⟨t1.toArray⟩, .string ⟨t2.toArray⟩, .string ⟨t3.toArray⟩] from by rw [hW0]; exact (TBox.new _ _ _).below ((Below.refl _ _).alloc (Nat.le_refl _) _))
    have Hr0 := Lib.hid (show TBox W0 (w.heap.size + 1) 31 #[.int .i64 r1, .int .i64 r2, .int .i64 r3, .int .i64 r4, .int .i64 r5, .int .i64 r6, .int .i64 r7, .int .i64 r8, .int .i64 r9, .string ⟨tx.toArray⟩, .slice A ls.length cp] from by
      rw [hW0]
      have h := TBox.new (w.alloc (.cells #[.int .i64 m1, .int .i64 m2, .int .i64 m3, .int .i64 m4, .int .i64 m5, .int .i64 m6, .int .i64 k1, .int .i64 k2, .int .i64 k3, .int .i64 k4, .int .i64 k5, .string ⟨t1.toArray⟩, .string ⟨t2.toArray⟩, .string ⟨t3.toArray⟩] 25)) 31 #[.int .i64 r1, .int .i64 r2, .int .i64 r3, .int .i64 r4, .int .i64 r5, .int .i64 r6, .int .i64 r7, .int .i64 r8, .int .i64 r9, .string ⟨tx.toArray⟩, .slice A ls.length cp]
      rw [show (w.alloc (.cells #[.int .i64 m1, .int .i64 m2, .int .i64 m3, .int .i64 m4, .int .i64 m5, .int .i64 m6, .int .i64 k1, .int .i64 k2, .int .i64 k3, .int .i64 k4, .int .i64 k5, .string ⟨t1.toArray⟩, .string ⟨t2.toArray⟩, .string ⟨t3.toArray⟩] 25)).heap.size = w.heap.size + 1 from by simp] at h
      exact h)
    have Rn0 := Lib.hid (hrow.below hb0)
    have BW_0 := Lib.hid hb0
    have HW := Lib.hid hW0
    clear hW0 hb0
    go_enter Try.func5, Try.ntmps5
    go_wp2_with fail
    rw [← HW.out]
    refine (law_shown _).mono ?_
    rintro e w1 ⟨rfl, hb⟩
    have Hm_1 := Lib.hid (Hm0.out.below hb)
    have Hr_1 := Lib.hid (Hr0.out.below hb)
    have Rn_1 := Lib.hid (Rn0.out.below hb)
    have BW_1 := Lib.hid (below_trans BW_0.out hb BW_0.out.size)
    clear hb 
    have cm_0 : w1.cell? ⟨w.heap.size, 0, none⟩ = some (.int .i64 m1) := Hm_1.out.cell 0
    have cm_1 : w1.cell? ⟨w.heap.size, 1, none⟩ = some (.int .i64 m2) := Hm_1.out.cell 1
    have cm_2 : w1.cell? ⟨w.heap.size, 2, none⟩ = some (.int .i64 m3) := Hm_1.out.cell 2
    have cm_3 : w1.cell? ⟨w.heap.size, 3, none⟩ = some (.int .i64 m4) := Hm_1.out.cell 3
    have cm_4 : w1.cell? ⟨w.heap.size, 4, none⟩ = some (.int .i64 m5) := Hm_1.out.cell 4
    have cm_5 : w1.cell? ⟨w.heap.size, 5, none⟩ = some (.int .i64 m6) := Hm_1.out.cell 5
    have cm_6 : w1.cell? ⟨w.heap.size, 6, none⟩ = some (.int .i64 k1) := Hm_1.out.cell 6
    have cm_7 : w1.cell? ⟨w.heap.size, 7, none⟩ = some (.int .i64 k2) := Hm_1.out.cell 7
    have cm_8 : w1.cell? ⟨w.heap.size, 8, none⟩ = some (.int .i64 k3) := Hm_1.out.cell 8
    have cm_9 : w1.cell? ⟨w.heap.size, 9, none⟩ = some (.int .i64 k4) := Hm_1.out.cell 9
    have cm_10 : w1.cell? ⟨w.heap.size, 10, none⟩ = some (.int .i64 k5) := Hm_1.out.cell 10
    have cm_11 : w1.cell? ⟨w.heap.size, 11, none⟩ = some (.string ⟨t1.toArray⟩) := Hm_1.out.cell 11
    have cm_12 : w1.cell? ⟨w.heap.size, 12, none⟩ = some (.string ⟨t2.toArray⟩) := Hm_1.out.cell 12
    have cm_13 : w1.cell? ⟨w.heap.size, 13, none⟩ = some (.string ⟨t3.toArray⟩) := Hm_1.out.cell 13
    have cr_0 : w1.cell? ⟨w.heap.size + 1, 0, none⟩ = some (.int .i64 r1) := Hr_1.out.cell 0
    have cr_1 : w1.cell? ⟨w.heap.size + 1, 1, none⟩ = some (.int .i64 r2) := Hr_1.out.cell 1
    have cr_2 : w1.cell? ⟨w.heap.size + 1, 2, none⟩ = some (.int .i64 r3) := Hr_1.out.cell 2
    have cr_3 : w1.cell? ⟨w.heap.size + 1, 3, none⟩ = some (.int .i64 r4) := Hr_1.out.cell 3
    have cr_4 : w1.cell? ⟨w.heap.size + 1, 4, none⟩ = some (.int .i64 r5) := Hr_1.out.cell 4
    have cr_5 : w1.cell? ⟨w.heap.size + 1, 5, none⟩ = some (.int .i64 r6) := Hr_1.out.cell 5
    have cr_6 : w1.cell? ⟨w.heap.size + 1, 6, none⟩ = some (.int .i64 r7) := Hr_1.out.cell 6
    have cr_7 : w1.cell? ⟨w.heap.size + 1, 7, none⟩ = some (.int .i64 r8) := Hr_1.out.cell 7
    have cr_8 : w1.cell? ⟨w.heap.size + 1, 8, none⟩ = some (.int .i64 r9) := Hr_1.out.cell 8
    have cr_9 : w1.cell? ⟨w.heap.size + 1, 9, none⟩ = some (.string ⟨tx.toArray⟩) := Hr_1.out.cell 9
    have cr_10 : w1.cell? ⟨w.heap.size + 1, 10, none⟩ = some (.slice A ls.length cp) := Hr_1.out.cell 10
    go_wp2_with fail
    refine (HSH.out _).mono ?_
    rintro e w2 ⟨rfl, hb⟩
    have Hm_2 := Lib.hid (Hm_1.out.below hb)
    have Hr_2 := Lib.hid (Hr_1.out.below hb)
    have Rn_2 := Lib.hid (Rn_1.out.below hb)
    have BW_2 := Lib.hid (below_trans BW_1.out hb BW_1.out.size)
    rw [HA.out]
    clear hb 
    clear cm_0 cm_1 cm_2 cm_3 cm_4 cm_5 cm_6 cm_7 cm_8 cm_9 cm_10 cm_11 cm_12 cm_13 cr_0 cr_1 cr_2 cr_3 cr_4 cr_5 cr_6 cr_7 cr_8 cr_9 cr_10
    go_wp2_with fail
    go_ret
    exact ⟨rfl, BW_2.out⟩
  | true =>
    have HA := Lib.hid hsa
    by_cases htx : 4000 < tx.length
    · clear hok hsa
      obtain ⟨W0, hW0⟩ : ∃ W0, W0 = (w.alloc (.cells #[.int .i64 m1, .int .i64 m2, .int .i64 m3, .int .i64 m4, .int .i64 m5, .int .i64 m6, .int .i64 k1, .int .i64 k2, .int .i64 k3, .int .i64 k4, .int .i64 k5, .string ⟨t1.toArray⟩, .string ⟨t2.toArray⟩, .string ⟨t3.toArray⟩] 25)).alloc (.cells #[.int .i64 r1, .int .i64 r2, .int .i64 r3, .int .i64 r4, .int .i64 r5, .int .i64 r6, .int .i64 r7, .int .i64 r8, .int .i64 r9, .string ⟨tx.toArray⟩, .slice A ls.length cp] 31) := ⟨_, rfl⟩
      have hb0 : Below w.heap.size w W0 := by rw [hW0]; exact ((Below.refl _ _).alloc (Nat.le_refl _) _).alloc (by simp) _
      have Hm0 := Lib.hid (show TBox W0 w.heap.size 25 #[.int .i64 m1, .int .i64 m2, .int .i64 m3, .int .i64 m4, .int .i64 m5, .int .i64 m6, .int .i64 k1, .int .i64 k2, .int .i64 k3, .int .i64 k4, .int .i64 k5, .string ⟨t1.toArray⟩, .string ⟨t2.toArray⟩, .string ⟨t3.toArray⟩] from by rw [hW0]; exact (TBox.new _ _ _).below ((Below.refl _ _).alloc (Nat.le_refl _) _))
      have Hr0 := Lib.hid (show TBox W0 (w.heap.size + 1) 31 #[.int .i64 r1, .int .i64 r2, .int .i64 r3, .int .i64 r4, .int .i64 r5, .int .i64 r6, .int .i64 r7, .int .i64 r8, .int .i64 r9, .string ⟨tx.toArray⟩, .slice A ls.length cp] from by
        rw [hW0]
        have h := TBox.new (w.alloc (.cells #[.int .i64 m1, .int .i64 m2, .int .i64 m3, .int .i64 m4, .int .i64 m5, .int .i64 m6, .int .i64 k1, .int .i64 k2, .int .i64 k3, .int .i64 k4, .int .i64 k5, .string ⟨t1.toArray⟩, .string ⟨t2.toArray⟩, .string ⟨t3.toArray⟩] 25)) 31 #[.int .i64 r1, .int .i64 r2, .int .i64 r3, .int .i64 r4, .int .i64 r5, .int .i64 r6, .int .i64 r7, .int .i64 r8, .int .i64 r9, .string ⟨tx.toArray⟩, .slice A ls.length cp]
        rw [show (w.alloc (.cells #[.int .i64 m1, .int .i64 m2, .int .i64 m3, .int .i64 m4, .int .i64 m5, .int .i64 m6, .int .i64 k1, .int .i64 k2, .int .i64 k3, .int .i64 k4, .int .i64 k5, .string ⟨t1.toArray⟩, .string ⟨t2.toArray⟩, .string ⟨t3.toArray⟩] 25)).heap.size = w.heap.size + 1 from by simp] at h
        exact h)
      have Rn0 := Lib.hid (hrow.below hb0)
      have BW_0 := Lib.hid hb0
      have HW := Lib.hid hW0
      clear hW0 hb0
      go_enter Try.func5, Try.ntmps5
      go_wp2_with fail
      rw [← HW.out]
      refine (law_shown _).mono ?_
      rintro e w1 ⟨rfl, hb⟩
      have Hm_1 := Lib.hid (Hm0.out.below hb)
      have Hr_1 := Lib.hid (Hr0.out.below hb)
      have Rn_1 := Lib.hid (Rn0.out.below hb)
      have BW_1 := Lib.hid (below_trans BW_0.out hb BW_0.out.size)
      clear hb 
      have cm_0 : w1.cell? ⟨w.heap.size, 0, none⟩ = some (.int .i64 m1) := Hm_1.out.cell 0
      have cm_1 : w1.cell? ⟨w.heap.size, 1, none⟩ = some (.int .i64 m2) := Hm_1.out.cell 1
      have cm_2 : w1.cell? ⟨w.heap.size, 2, none⟩ = some (.int .i64 m3) := Hm_1.out.cell 2
      have cm_3 : w1.cell? ⟨w.heap.size, 3, none⟩ = some (.int .i64 m4) := Hm_1.out.cell 3
      have cm_4 : w1.cell? ⟨w.heap.size, 4, none⟩ = some (.int .i64 m5) := Hm_1.out.cell 4
      have cm_5 : w1.cell? ⟨w.heap.size, 5, none⟩ = some (.int .i64 m6) := Hm_1.out.cell 5
      have cm_6 : w1.cell? ⟨w.heap.size, 6, none⟩ = some (.int .i64 k1) := Hm_1.out.cell 6
      have cm_7 : w1.cell? ⟨w.heap.size, 7, none⟩ = some (.int .i64 k2) := Hm_1.out.cell 7
      have cm_8 : w1.cell? ⟨w.heap.size, 8, none⟩ = some (.int .i64 k3) := Hm_1.out.cell 8
      have cm_9 : w1.cell? ⟨w.heap.size, 9, none⟩ = some (.int .i64 k4) := Hm_1.out.cell 9
      have cm_10 : w1.cell? ⟨w.heap.size, 10, none⟩ = some (.int .i64 k5) := Hm_1.out.cell 10
      have cm_11 : w1.cell? ⟨w.heap.size, 11, none⟩ = some (.string ⟨t1.toArray⟩) := Hm_1.out.cell 11
      have cm_12 : w1.cell? ⟨w.heap.size, 12, none⟩ = some (.string ⟨t2.toArray⟩) := Hm_1.out.cell 12
      have cm_13 : w1.cell? ⟨w.heap.size, 13, none⟩ = some (.string ⟨t3.toArray⟩) := Hm_1.out.cell 13
      have cr_0 : w1.cell? ⟨w.heap.size + 1, 0, none⟩ = some (.int .i64 r1) := Hr_1.out.cell 0
      have cr_1 : w1.cell? ⟨w.heap.size + 1, 1, none⟩ = some (.int .i64 r2) := Hr_1.out.cell 1
      have cr_2 : w1.cell? ⟨w.heap.size + 1, 2, none⟩ = some (.int .i64 r3) := Hr_1.out.cell 2
      have cr_3 : w1.cell? ⟨w.heap.size + 1, 3, none⟩ = some (.int .i64 r4) := Hr_1.out.cell 3
      have cr_4 : w1.cell? ⟨w.heap.size + 1, 4, none⟩ = some (.int .i64 r5) := Hr_1.out.cell 4
      have cr_5 : w1.cell? ⟨w.heap.size + 1, 5, none⟩ = some (.int .i64 r6) := Hr_1.out.cell 5
      have cr_6 : w1.cell? ⟨w.heap.size + 1, 6, none⟩ = some (.int .i64 r7) := Hr_1.out.cell 6
      have cr_7 : w1.cell? ⟨w.heap.size + 1, 7, none⟩ = some (.int .i64 r8) := Hr_1.out.cell 7
      have cr_8 : w1.cell? ⟨w.heap.size + 1, 8, none⟩ = some (.int .i64 r9) := Hr_1.out.cell 8
      have cr_9 : w1.cell? ⟨w.heap.size + 1, 9, none⟩ = some (.string ⟨tx.toArray⟩) := Hr_1.out.cell 9
      have cr_10 : w1.cell? ⟨w.heap.size + 1, 10, none⟩ = some (.slice A ls.length cp) := Hr_1.out.cell 10
      go_wp2_with fail
      refine (HSH.out _).mono ?_
      rintro e w2 ⟨rfl, hb⟩
      have Hm_2 := Lib.hid (Hm_1.out.below hb)
      have Hr_2 := Lib.hid (Hr_1.out.below hb)
      have Rn_2 := Lib.hid (Rn_1.out.below hb)
      have BW_2 := Lib.hid (below_trans BW_1.out hb BW_1.out.size)
      rw [HA.out]
      clear hb 
      clear cm_0 cm_1 cm_2 cm_3 cm_4 cm_5 cm_6 cm_7 cm_8 cm_9 cm_10 cm_11 cm_12 cm_13 cr_0 cr_1 cr_2 cr_3 cr_4 cr_5 cr_6 cr_7 cr_8 cr_9 cr_10
      have cr_0 : w2.cell? ⟨w.heap.size + 1, 0, none⟩ = some (.int .i64 r1) := Hr_2.out.cell 0
      have cr_1 : w2.cell? ⟨w.heap.size + 1, 1, none⟩ = some (.int .i64 r2) := Hr_2.out.cell 1
      have cr_2 : w2.cell? ⟨w.heap.size + 1, 2, none⟩ = some (.int .i64 r3) := Hr_2.out.cell 2
      have cr_3 : w2.cell? ⟨w.heap.size + 1, 3, none⟩ = some (.int .i64 r4) := Hr_2.out.cell 3
      have cr_4 : w2.cell? ⟨w.heap.size + 1, 4, none⟩ = some (.int .i64 r5) := Hr_2.out.cell 4
      have cr_5 : w2.cell? ⟨w.heap.size + 1, 5, none⟩ = some (.int .i64 r6) := Hr_2.out.cell 5
      have cr_6 : w2.cell? ⟨w.heap.size + 1, 6, none⟩ = some (.int .i64 r7) := Hr_2.out.cell 6
      have cr_7 : w2.cell? ⟨w.heap.size + 1, 7, none⟩ = some (.int .i64 r8) := Hr_2.out.cell 7
      have cr_8 : w2.cell? ⟨w.heap.size + 1, 8, none⟩ = some (.int .i64 r9) := Hr_2.out.cell 8
      have cr_9 : w2.cell? ⟨w.heap.size + 1, 9, none⟩ = some (.string ⟨tx.toArray⟩) := Hr_2.out.cell 9
      have cr_10 : w2.cell? ⟨w.heap.size + 1, 10, none⟩ = some (.slice A ls.length cp) := Hr_2.out.cell 10
      go_wp2_with fail
      go_ret
      exact ⟨rfl, BW_2.out⟩
    by_cases hnn : 256 < ls.length
    · clear hok hsa
      obtain ⟨W0, hW0⟩ : ∃ W0, W0 = (w.alloc (.cells #[.int .i64 m1, .int .i64 m2, .int .i64 m3, .int .i64 m4, .int .i64 m5, .int .i64 m6, .int .i64 k1, .int .i64 k2, .int .i64 k3, .int .i64 k4, .int .i64 k5, .string ⟨t1.toArray⟩, .string ⟨t2.toArray⟩, .string ⟨t3.toArray⟩] 25)).alloc (.cells #[.int .i64 r1, .int .i64 r2, .int .i64 r3, .int .i64 r4, .int .i64 r5, .int .i64 r6, .int .i64 r7, .int .i64 r8, .int .i64 r9, .string ⟨tx.toArray⟩, .slice A ls.length cp] 31) := ⟨_, rfl⟩
      have hb0 : Below w.heap.size w W0 := by rw [hW0]; exact ((Below.refl _ _).alloc (Nat.le_refl _) _).alloc (by simp) _
      have Hm0 := Lib.hid (show TBox W0 w.heap.size 25 #[.int .i64 m1, .int .i64 m2, .int .i64 m3, .int .i64 m4, .int .i64 m5, .int .i64 m6, .int .i64 k1, .int .i64 k2, .int .i64 k3, .int .i64 k4, .int .i64 k5, .string ⟨t1.toArray⟩, .string ⟨t2.toArray⟩, .string ⟨t3.toArray⟩] from by rw [hW0]; exact (TBox.new _ _ _).below ((Below.refl _ _).alloc (Nat.le_refl _) _))
      have Hr0 := Lib.hid (show TBox W0 (w.heap.size + 1) 31 #[.int .i64 r1, .int .i64 r2, .int .i64 r3, .int .i64 r4, .int .i64 r5, .int .i64 r6, .int .i64 r7, .int .i64 r8, .int .i64 r9, .string ⟨tx.toArray⟩, .slice A ls.length cp] from by
        rw [hW0]
        have h := TBox.new (w.alloc (.cells #[.int .i64 m1, .int .i64 m2, .int .i64 m3, .int .i64 m4, .int .i64 m5, .int .i64 m6, .int .i64 k1, .int .i64 k2, .int .i64 k3, .int .i64 k4, .int .i64 k5, .string ⟨t1.toArray⟩, .string ⟨t2.toArray⟩, .string ⟨t3.toArray⟩] 25)) 31 #[.int .i64 r1, .int .i64 r2, .int .i64 r3, .int .i64 r4, .int .i64 r5, .int .i64 r6, .int .i64 r7, .int .i64 r8, .int .i64 r9, .string ⟨tx.toArray⟩, .slice A ls.length cp]
        rw [show (w.alloc (.cells #[.int .i64 m1, .int .i64 m2, .int .i64 m3, .int .i64 m4, .int .i64 m5, .int .i64 m6, .int .i64 k1, .int .i64 k2, .int .i64 k3, .int .i64 k4, .int .i64 k5, .string ⟨t1.toArray⟩, .string ⟨t2.toArray⟩, .string ⟨t3.toArray⟩] 25)).heap.size = w.heap.size + 1 from by simp] at h
        exact h)
      have Rn0 := Lib.hid (hrow.below hb0)
      have BW_0 := Lib.hid hb0
      have HW := Lib.hid hW0
      clear hW0 hb0
      go_enter Try.func5, Try.ntmps5
      go_wp2_with fail
      rw [← HW.out]
      refine (law_shown _).mono ?_
      rintro e w1 ⟨rfl, hb⟩
      have Hm_1 := Lib.hid (Hm0.out.below hb)
      have Hr_1 := Lib.hid (Hr0.out.below hb)
      have Rn_1 := Lib.hid (Rn0.out.below hb)
      have BW_1 := Lib.hid (below_trans BW_0.out hb BW_0.out.size)
      clear hb 
      have cm_0 : w1.cell? ⟨w.heap.size, 0, none⟩ = some (.int .i64 m1) := Hm_1.out.cell 0
      have cm_1 : w1.cell? ⟨w.heap.size, 1, none⟩ = some (.int .i64 m2) := Hm_1.out.cell 1
      have cm_2 : w1.cell? ⟨w.heap.size, 2, none⟩ = some (.int .i64 m3) := Hm_1.out.cell 2
      have cm_3 : w1.cell? ⟨w.heap.size, 3, none⟩ = some (.int .i64 m4) := Hm_1.out.cell 3
      have cm_4 : w1.cell? ⟨w.heap.size, 4, none⟩ = some (.int .i64 m5) := Hm_1.out.cell 4
      have cm_5 : w1.cell? ⟨w.heap.size, 5, none⟩ = some (.int .i64 m6) := Hm_1.out.cell 5
      have cm_6 : w1.cell? ⟨w.heap.size, 6, none⟩ = some (.int .i64 k1) := Hm_1.out.cell 6
      have cm_7 : w1.cell? ⟨w.heap.size, 7, none⟩ = some (.int .i64 k2) := Hm_1.out.cell 7
      have cm_8 : w1.cell? ⟨w.heap.size, 8, none⟩ = some (.int .i64 k3) := Hm_1.out.cell 8
      have cm_9 : w1.cell? ⟨w.heap.size, 9, none⟩ = some (.int .i64 k4) := Hm_1.out.cell 9
      have cm_10 : w1.cell? ⟨w.heap.size, 10, none⟩ = some (.int .i64 k5) := Hm_1.out.cell 10
      have cm_11 : w1.cell? ⟨w.heap.size, 11, none⟩ = some (.string ⟨t1.toArray⟩) := Hm_1.out.cell 11
      have cm_12 : w1.cell? ⟨w.heap.size, 12, none⟩ = some (.string ⟨t2.toArray⟩) := Hm_1.out.cell 12
      have cm_13 : w1.cell? ⟨w.heap.size, 13, none⟩ = some (.string ⟨t3.toArray⟩) := Hm_1.out.cell 13
      have cr_0 : w1.cell? ⟨w.heap.size + 1, 0, none⟩ = some (.int .i64 r1) := Hr_1.out.cell 0
      have cr_1 : w1.cell? ⟨w.heap.size + 1, 1, none⟩ = some (.int .i64 r2) := Hr_1.out.cell 1
      have cr_2 : w1.cell? ⟨w.heap.size + 1, 2, none⟩ = some (.int .i64 r3) := Hr_1.out.cell 2
      have cr_3 : w1.cell? ⟨w.heap.size + 1, 3, none⟩ = some (.int .i64 r4) := Hr_1.out.cell 3
      have cr_4 : w1.cell? ⟨w.heap.size + 1, 4, none⟩ = some (.int .i64 r5) := Hr_1.out.cell 4
      have cr_5 : w1.cell? ⟨w.heap.size + 1, 5, none⟩ = some (.int .i64 r6) := Hr_1.out.cell 5
      have cr_6 : w1.cell? ⟨w.heap.size + 1, 6, none⟩ = some (.int .i64 r7) := Hr_1.out.cell 6
      have cr_7 : w1.cell? ⟨w.heap.size + 1, 7, none⟩ = some (.int .i64 r8) := Hr_1.out.cell 7
      have cr_8 : w1.cell? ⟨w.heap.size + 1, 8, none⟩ = some (.int .i64 r9) := Hr_1.out.cell 8
      have cr_9 : w1.cell? ⟨w.heap.size + 1, 9, none⟩ = some (.string ⟨tx.toArray⟩) := Hr_1.out.cell 9
      have cr_10 : w1.cell? ⟨w.heap.size + 1, 10, none⟩ = some (.slice A ls.length cp) := Hr_1.out.cell 10
      go_wp2_with fail
      refine (HSH.out _).mono ?_
      rintro e w2 ⟨rfl, hb⟩
      have Hm_2 := Lib.hid (Hm_1.out.below hb)
      have Hr_2 := Lib.hid (Hr_1.out.below hb)
      have Rn_2 := Lib.hid (Rn_1.out.below hb)
      have BW_2 := Lib.hid (below_trans BW_1.out hb BW_1.out.size)
      rw [HA.out]
      clear hb 
      clear cm_0 cm_1 cm_2 cm_3 cm_4 cm_5 cm_6 cm_7 cm_8 cm_9 cm_10 cm_11 cm_12 cm_13 cr_0 cr_1 cr_2 cr_3 cr_4 cr_5 cr_6 cr_7 cr_8 cr_9 cr_10
      have cr_0 : w2.cell? ⟨w.heap.size + 1, 0, none⟩ = some (.int .i64 r1) := Hr_2.out.cell 0
      have cr_1 : w2.cell? ⟨w.heap.size + 1, 1, none⟩ = some (.int .i64 r2) := Hr_2.out.cell 1
      have cr_2 : w2.cell? ⟨w.heap.size + 1, 2, none⟩ = some (.int .i64 r3) := Hr_2.out.cell 2
      have cr_3 : w2.cell? ⟨w.heap.size + 1, 3, none⟩ = some (.int .i64 r4) := Hr_2.out.cell 3
      have cr_4 : w2.cell? ⟨w.heap.size + 1, 4, none⟩ = some (.int .i64 r5) := Hr_2.out.cell 4
      have cr_5 : w2.cell? ⟨w.heap.size + 1, 5, none⟩ = some (.int .i64 r6) := Hr_2.out.cell 5
      have cr_6 : w2.cell? ⟨w.heap.size + 1, 6, none⟩ = some (.int .i64 r7) := Hr_2.out.cell 6
      have cr_7 : w2.cell? ⟨w.heap.size + 1, 7, none⟩ = some (.int .i64 r8) := Hr_2.out.cell 7
      have cr_8 : w2.cell? ⟨w.heap.size + 1, 8, none⟩ = some (.int .i64 r9) := Hr_2.out.cell 8
      have cr_9 : w2.cell? ⟨w.heap.size + 1, 9, none⟩ = some (.string ⟨tx.toArray⟩) := Hr_2.out.cell 9
      have cr_10 : w2.cell? ⟨w.heap.size + 1, 10, none⟩ = some (.slice A ls.length cp) := Hr_2.out.cell 10
      go_wp2_with fail
      go_ret
      exact ⟨rfl, BW_2.out⟩
    obtain ⟨W0, hW0⟩ : ∃ W0, W0 = (w.alloc (.cells #[.int .i64 m1, .int .i64 m2, .int .i64 m3, .int .i64 m4, .int .i64 m5, .int .i64 m6, .int .i64 k1, .int .i64 k2, .int .i64 k3, .int .i64 k4, .int .i64 k5, .string ⟨t1.toArray⟩, .string ⟨t2.toArray⟩, .string ⟨t3.toArray⟩] 25)).alloc (.cells #[.int .i64 r1, .int .i64 r2, .int .i64 r3, .int .i64 r4, .int .i64 r5, .int .i64 r6, .int .i64 r7, .int .i64 r8, .int .i64 r9, .string ⟨tx.toArray⟩, .slice A ls.length cp] 31) := ⟨_, rfl⟩
    have hb0 : Below w.heap.size w W0 := by rw [hW0]; exact ((Below.refl _ _).alloc (Nat.le_refl _) _).alloc (by simp) _
    have Hm0 := Lib.hid (show TBox W0 w.heap.size 25 #[.int .i64 m1, .int .i64 m2, .int .i64 m3, .int .i64 m4, .int .i64 m5, .int .i64 m6, .int .i64 k1, .int .i64 k2, .int .i64 k3, .int .i64 k4, .int .i64 k5, .string ⟨t1.toArray⟩, .string ⟨t2.toArray⟩, .string ⟨t3.toArray⟩] from by rw [hW0]; exact (TBox.new _ _ _).below ((Below.refl _ _).alloc (Nat.le_refl _) _))
    have Hr0 := Lib.hid (show TBox W0 (w.heap.size + 1) 31 #[.int .i64 r1, .int .i64 r2, .int .i64 r3, .int .i64 r4, .int .i64 r5, .int .i64 r6, .int .i64 r7, .int .i64 r8, .int .i64 r9, .string ⟨tx.toArray⟩, .slice A ls.length cp] from by
      rw [hW0]
      have h := TBox.new (w.alloc (.cells #[.int .i64 m1, .int .i64 m2, .int .i64 m3, .int .i64 m4, .int .i64 m5, .int .i64 m6, .int .i64 k1, .int .i64 k2, .int .i64 k3, .int .i64 k4, .int .i64 k5, .string ⟨t1.toArray⟩, .string ⟨t2.toArray⟩, .string ⟨t3.toArray⟩] 25)) 31 #[.int .i64 r1, .int .i64 r2, .int .i64 r3, .int .i64 r4, .int .i64 r5, .int .i64 r6, .int .i64 r7, .int .i64 r8, .int .i64 r9, .string ⟨tx.toArray⟩, .slice A ls.length cp]
      rw [show (w.alloc (.cells #[.int .i64 m1, .int .i64 m2, .int .i64 m3, .int .i64 m4, .int .i64 m5, .int .i64 m6, .int .i64 k1, .int .i64 k2, .int .i64 k3, .int .i64 k4, .int .i64 k5, .string ⟨t1.toArray⟩, .string ⟨t2.toArray⟩, .string ⟨t3.toArray⟩] 25)).heap.size = w.heap.size + 1 from by simp] at h
      exact h)
    have Rn0 := Lib.hid (hrow.below hb0)
    have BW_0 := Lib.hid hb0
    have HW := Lib.hid hW0
    clear hW0 hb0
    go_enter Try.func5, Try.ntmps5
    go_wp2_with fail
    rw [← HW.out]
    refine (law_shown _).mono ?_
    rintro e w1 ⟨rfl, hb⟩
    have Hm_1 := Lib.hid (Hm0.out.below hb)
    have Hr_1 := Lib.hid (Hr0.out.below hb)
    have Rn_1 := Lib.hid (Rn0.out.below hb)
    have BW_1 := Lib.hid (below_trans BW_0.out hb BW_0.out.size)
    clear hb 
    have cm_0 : w1.cell? ⟨w.heap.size, 0, none⟩ = some (.int .i64 m1) := Hm_1.out.cell 0
    have cm_1 : w1.cell? ⟨w.heap.size, 1, none⟩ = some (.int .i64 m2) := Hm_1.out.cell 1
    have cm_2 : w1.cell? ⟨w.heap.size, 2, none⟩ = some (.int .i64 m3) := Hm_1.out.cell 2
    have cm_3 : w1.cell? ⟨w.heap.size, 3, none⟩ = some (.int .i64 m4) := Hm_1.out.cell 3
    have cm_4 : w1.cell? ⟨w.heap.size, 4, none⟩ = some (.int .i64 m5) := Hm_1.out.cell 4
    have cm_5 : w1.cell? ⟨w.heap.size, 5, none⟩ = some (.int .i64 m6) := Hm_1.out.cell 5
    have cm_6 : w1.cell? ⟨w.heap.size, 6, none⟩ = some (.int .i64 k1) := Hm_1.out.cell 6
    have cm_7 : w1.cell? ⟨w.heap.size, 7, none⟩ = some (.int .i64 k2) := Hm_1.out.cell 7
    have cm_8 : w1.cell? ⟨w.heap.size, 8, none⟩ = some (.int .i64 k3) := Hm_1.out.cell 8
    have cm_9 : w1.cell? ⟨w.heap.size, 9, none⟩ = some (.int .i64 k4) := Hm_1.out.cell 9
    have cm_10 : w1.cell? ⟨w.heap.size, 10, none⟩ = some (.int .i64 k5) := Hm_1.out.cell 10
    have cm_11 : w1.cell? ⟨w.heap.size, 11, none⟩ = some (.string ⟨t1.toArray⟩) := Hm_1.out.cell 11
    have cm_12 : w1.cell? ⟨w.heap.size, 12, none⟩ = some (.string ⟨t2.toArray⟩) := Hm_1.out.cell 12
    have cm_13 : w1.cell? ⟨w.heap.size, 13, none⟩ = some (.string ⟨t3.toArray⟩) := Hm_1.out.cell 13
    have cr_0 : w1.cell? ⟨w.heap.size + 1, 0, none⟩ = some (.int .i64 r1) := Hr_1.out.cell 0
    have cr_1 : w1.cell? ⟨w.heap.size + 1, 1, none⟩ = some (.int .i64 r2) := Hr_1.out.cell 1
    have cr_2 : w1.cell? ⟨w.heap.size + 1, 2, none⟩ = some (.int .i64 r3) := Hr_1.out.cell 2
    have cr_3 : w1.cell? ⟨w.heap.size + 1, 3, none⟩ = some (.int .i64 r4) := Hr_1.out.cell 3
    have cr_4 : w1.cell? ⟨w.heap.size + 1, 4, none⟩ = some (.int .i64 r5) := Hr_1.out.cell 4
    have cr_5 : w1.cell? ⟨w.heap.size + 1, 5, none⟩ = some (.int .i64 r6) := Hr_1.out.cell 5
    have cr_6 : w1.cell? ⟨w.heap.size + 1, 6, none⟩ = some (.int .i64 r7) := Hr_1.out.cell 6
    have cr_7 : w1.cell? ⟨w.heap.size + 1, 7, none⟩ = some (.int .i64 r8) := Hr_1.out.cell 7
    have cr_8 : w1.cell? ⟨w.heap.size + 1, 8, none⟩ = some (.int .i64 r9) := Hr_1.out.cell 8
    have cr_9 : w1.cell? ⟨w.heap.size + 1, 9, none⟩ = some (.string ⟨tx.toArray⟩) := Hr_1.out.cell 9
    have cr_10 : w1.cell? ⟨w.heap.size + 1, 10, none⟩ = some (.slice A ls.length cp) := Hr_1.out.cell 10
    go_wp2_with fail
    refine (HSH.out _).mono ?_
    rintro e w2 ⟨rfl, hb⟩
    have Hm_2 := Lib.hid (Hm_1.out.below hb)
    have Hr_2 := Lib.hid (Hr_1.out.below hb)
    have Rn_2 := Lib.hid (Rn_1.out.below hb)
    have BW_2 := Lib.hid (below_trans BW_1.out hb BW_1.out.size)
    rw [HA.out]
    clear hb 
    clear cm_0 cm_1 cm_2 cm_3 cm_4 cm_5 cm_6 cm_7 cm_8 cm_9 cm_10 cm_11 cm_12 cm_13 cr_0 cr_1 cr_2 cr_3 cr_4 cr_5 cr_6 cr_7 cr_8 cr_9 cr_10
    have cr_0 : w2.cell? ⟨w.heap.size + 1, 0, none⟩ = some (.int .i64 r1) := Hr_2.out.cell 0
    have cr_1 : w2.cell? ⟨w.heap.size + 1, 1, none⟩ = some (.int .i64 r2) := Hr_2.out.cell 1
    have cr_2 : w2.cell? ⟨w.heap.size + 1, 2, none⟩ = some (.int .i64 r3) := Hr_2.out.cell 2
    have cr_3 : w2.cell? ⟨w.heap.size + 1, 3, none⟩ = some (.int .i64 r4) := Hr_2.out.cell 3
    have cr_4 : w2.cell? ⟨w.heap.size + 1, 4, none⟩ = some (.int .i64 r5) := Hr_2.out.cell 4
    have cr_5 : w2.cell? ⟨w.heap.size + 1, 5, none⟩ = some (.int .i64 r6) := Hr_2.out.cell 5
    have cr_6 : w2.cell? ⟨w.heap.size + 1, 6, none⟩ = some (.int .i64 r7) := Hr_2.out.cell 6
    have cr_7 : w2.cell? ⟨w.heap.size + 1, 7, none⟩ = some (.int .i64 r8) := Hr_2.out.cell 7
    have cr_8 : w2.cell? ⟨w.heap.size + 1, 8, none⟩ = some (.int .i64 r9) := Hr_2.out.cell 8
    have cr_9 : w2.cell? ⟨w.heap.size + 1, 9, none⟩ = some (.string ⟨tx.toArray⟩) := Hr_2.out.cell 9
    have cr_10 : w2.cell? ⟨w.heap.size + 1, 10, none⟩ = some (.slice A ls.length cp) := Hr_2.out.cell 10
    go_wp2_with fail
    refine (ref_LongAny _ ls _ Rn_2.out (by omega)).mono ?_
    rintro e wq ⟨rfl, rfl⟩
    generalize longK ls ls.length = L at *
    by_cases hL : 5000 < L
    · go_wp2_with fail
      go_ret
      exact ⟨rfl, BW_2.out⟩
    by_cases hmo : 100 < more.length
    · go_wp2_with fail
      go_ret
      exact ⟨rfl, BW_2.out⟩
    go_wp2_with fail
    go_loop [8] (fun i => ∃ k : Nat, k ≤ ls.length ∧ i = .int .i64 k ∧ ∀ j : Nat, j < k → ∀ l, ls[j]? = some l → l.length ≤ 32) (fun i => ls.length - (intOf i).toNat)
    case atStart => exact ⟨0, Nat.zero_le _, rfl, fun j hj => absurd hj (Nat.not_lt_zero _)⟩
    case round =>
      obtain ⟨k, hk, rfl, hall⟩ := hrel
      have HALL := Lib.hid hall
      clear hall
      by_cases hlt : k < ls.length
      · obtain ⟨b, off, rfl, hbk, _, hcs⟩ := Rn_2.out.at k (x := strV ls[k]) (by simp [hlt])
        have hc : w2.cell? ⟨b, off + k, none⟩ = some (.string ⟨(ls[k]).toArray⟩) := hcs k (strV ls[k]) (by simp [hlt])
        have hget : ls[k]? = some ls[k] := List.getElem?_eq_getElem hlt
        have HG := Lib.hid hget
        have hx := hlz ls[k] (List.getElem_mem hlt)
        clear hcs hget
        generalize ls[k] = x at *
        by_cases h32 : 32 < x.length
        · go_wp2_with fail
          go_ret
          exact ⟨rfl, BW_2.out⟩
        · go_wp2_with fail
          go_round
          case rel => exact ⟨k + 1, by omega, by go_num, fun j hj l hl => by
            by_cases hjk : j < k
            · exact HALL.out j hjk l hl
            · obtain rfl : j = k := by omega
              have e := HG.out.symm.trans hl
              simp only [Option.some.injEq] at e
              subst e
              omega⟩
          case measure => simp [intOf]; omega
      · obtain rfl : k = ls.length := by omega
        have hsh : ∀ l ∈ ls, l.length ≤ 32 := fun l hl => by
          obtain ⟨j, hj, rfl⟩ := List.getElem_of_mem hl
          exact HALL.out j hj _ (List.getElem?_eq_getElem hj)
        have oc := hok hsa
        have okm : OkM 4096 ⟨m1, m2, m3, m4, m5, m6, ⟨k1, k2, k3, k4, k5, t1, t2, t3⟩⟩ := ⟨HI.out.1, oc.mono (by decide)⟩
        have okr : OkRT ⟨r1, r2, r3, r4, r5, r6, r7, r8, r9, tx, ls⟩ := ⟨HI.out.2, by simp only; omega, by simp only; omega, hsh⟩
        have hsum := sum_names ls 32 hsh
        have okr2 : OkR 1000000000 ⟨r1, r2, r3, r4, r5, r6, r7, r8, r9, tx, ls⟩ := ⟨HI.out.2, by simp only; omega, by simp only; omega⟩
        have e1 := takeMsg_back _ okm
        have e2 := takeRsp_back _ okr
        have e3 := (takeCall_parses _ (oc.mono (n := 4096) (by decide))).1 more
        have e4 := take_cross1 ⟨m1, m2, m3, m4, m5, m6, ⟨k1, k2, k3, k4, k5, t1, t2, t3⟩⟩
        have e5 := take_cross2 ⟨r1, r2, r3, r4, r5, r6, r7, r8, r9, tx, ls⟩
        have lm : (msgB ⟨m1, m2, m3, m4, m5, m6, ⟨k1, k2, k3, k4, k5, t1, t2, t3⟩⟩).length ≤ 1000000 := by
          rw [msgB, putB_len, List.length_cons, show msgI ⟨m1, m2, m3, m4, m5, m6, ⟨k1, k2, k3, k4, k5, t1, t2, t3⟩⟩ = numsB [m1, m2, m3, m4, m5, m6] ++ callB ⟨k1, k2, k3, k4, k5, t1, t2, t3⟩ from rfl, List.length_append]
          have h1 := numsB_len [m1, m2, m3, m4, m5, m6] (by
            obtain ⟨⟨h1, h2, h3, h4, h5, h6⟩, _⟩ := HI.out
            intro z hz; simp at hz; rcases hz with rfl | rfl | rfl | rfl | rfl | rfl <;> assumption)
          have h2 := callB_len _ _ oc (by decide)
          simp only [List.length_cons, List.length_nil] at h1
          omega
        have lr : (rspB ⟨r1, r2, r3, r4, r5, r6, r7, r8, r9, tx, ls⟩).length ≤ 1000000 := by
          rw [rspB, putB_len, List.length_cons, show rspI ⟨r1, r2, r3, r4, r5, r6, r7, r8, r9, tx, ls⟩ = numsB [r1, r2, r3, r4, r5] ++ (numsB [r6, r7, r8, r9] ++ (textB tx ++ listB ls)) from rfl]
          obtain ⟨_, h1, h2, h3, h4, h5, h6, h7, h8, h9⟩ := HI.out
          have g1 := numsB_len [r1, r2, r3, r4, r5] (by intro z hz; simp at hz; rcases hz with rfl | rfl | rfl | rfl | rfl <;> assumption)
          have g2 := numsB_len [r6, r7, r8, r9] (by intro z hz; simp at hz; rcases hz with rfl | rfl | rfl | rfl <;> assumption)
          have g3 := textB_len tx (by omega)
          have g4 := flat_len ls (by omega)
          simp only [List.length_append, List.length_cons, List.length_nil] at *
          omega
        have lc := callB_len _ _ oc (by decide)
        have HMs := Lib.hid (fun W => wire_Msg ⟨m1, m2, m3, m4, m5, m6, ⟨k1, k2, k3, k4, k5, t1, t2, t3⟩⟩ W ⟨HI.out.1, oc.mono (by decide)⟩)
        have HRs := Lib.hid (fun W v hv => wire_Rsp ⟨r1, r2, r3, r4, r5, r6, r7, r8, r9, tx, ls⟩ v W hv okr2)
        have HCs := Lib.hid (fun W => wire_Call ⟨k1, k2, k3, k4, k5, t1, t2, t3⟩ W (oc.mono (by decide)))
        have HS := Lib.hid (fun vx vy W hx hy => ref15_Same ⟨r1, r2, r3, r4, r5, r6, r7, r8, r9, tx, ls⟩ ⟨r1, r2, r3, r4, r5, r6, r7, r8, r9, tx, ls⟩ vx vy W hx hy (by simp only; omega) (by simp only; omega))
        rw [(sameR_iff ⟨r1, r2, r3, r4, r5, r6, r7, r8, r9, tx, ls⟩ ⟨r1, r2, r3, r4, r5, r6, r7, r8, r9, tx, ls⟩).2 rfl] at HS
        generalize msgB ⟨m1, m2, m3, m4, m5, m6, ⟨k1, k2, k3, k4, k5, t1, t2, t3⟩⟩ = MB at *
        generalize rspB ⟨r1, r2, r3, r4, r5, r6, r7, r8, r9, tx, ls⟩ = RB at *
        generalize callB ⟨k1, k2, k3, k4, k5, t1, t2, t3⟩ = CB at *
        have HT1 := Lib.hid (fun W => wire_TakeMsg MB W (by omega))
        have HT2 := Lib.hid (fun W => wire_TakeRsp RB W (by omega))
        have HT3 := Lib.hid (fun W => wire_TakeCall (CB ++ more) W (by rw [List.length_append]; omega))
        have HT4 := Lib.hid (fun W => wire_TakeRsp MB W (by omega))
        have HT5 := Lib.hid (fun W => wire_TakeMsg RB W (by omega))
        rw [e1] at HT1
        rw [e2] at HT2
        rw [e3] at HT3
        rw [e4] at HT4
        rw [e5] at HT5
        unfold RetRsp at HT2 HT4
        unfold RspV at HRs HS
        simp only [msgV, msgCells, rspCells, callV, msg0, rsp0, call0, List.length_nil, List.map_nil] at HMs HRs HCs HS HT1 HT2 HT3 HT4 HT5
        clear e1 e2 e3 e4 e5 okm okr okr2 oc hsh hlz hok hsa HALL
        have dm_0 : w2.cell? ⟨w.heap.size, 0, none⟩ = some (.int .i64 m1) := Hm_2.out.cell 0
        have dm_1 : w2.cell? ⟨w.heap.size, 1, none⟩ = some (.int .i64 m2) := Hm_2.out.cell 1
        have dm_2 : w2.cell? ⟨w.heap.size, 2, none⟩ = some (.int .i64 m3) := Hm_2.out.cell 2
        have dm_3 : w2.cell? ⟨w.heap.size, 3, none⟩ = some (.int .i64 m4) := Hm_2.out.cell 3
        have dm_4 : w2.cell? ⟨w.heap.size, 4, none⟩ = some (.int .i64 m5) := Hm_2.out.cell 4
        have dm_5 : w2.cell? ⟨w.heap.size, 5, none⟩ = some (.int .i64 m6) := Hm_2.out.cell 5
        have dm_6 : w2.cell? ⟨w.heap.size, 6, none⟩ = some (.int .i64 k1) := Hm_2.out.cell 6
        have dm_7 : w2.cell? ⟨w.heap.size, 7, none⟩ = some (.int .i64 k2) := Hm_2.out.cell 7
        have dm_8 : w2.cell? ⟨w.heap.size, 8, none⟩ = some (.int .i64 k3) := Hm_2.out.cell 8
        have dm_9 : w2.cell? ⟨w.heap.size, 9, none⟩ = some (.int .i64 k4) := Hm_2.out.cell 9
        have dm_10 : w2.cell? ⟨w.heap.size, 10, none⟩ = some (.int .i64 k5) := Hm_2.out.cell 10
        have dm_11 : w2.cell? ⟨w.heap.size, 11, none⟩ = some (.string ⟨t1.toArray⟩) := Hm_2.out.cell 11
        have dm_12 : w2.cell? ⟨w.heap.size, 12, none⟩ = some (.string ⟨t2.toArray⟩) := Hm_2.out.cell 12
        have dm_13 : w2.cell? ⟨w.heap.size, 13, none⟩ = some (.string ⟨t3.toArray⟩) := Hm_2.out.cell 13
        go_wp2_with fail
        refine (HMs.out _).mono ?_
        rintro e w3 ⟨rfl, hb⟩
        have Hm_3 := Lib.hid (Hm_2.out.below hb)
        have Hr_3 := Lib.hid (Hr_2.out.below hb)
        have Rn_3 := Lib.hid (Rn_2.out.below hb)
        have BW_3 := Lib.hid (below_trans BW_2.out hb BW_2.out.size)
        clear hb 
        clear dm_0 dm_1 dm_2 dm_3 dm_4 dm_5 dm_6 dm_7 dm_8 dm_9 dm_10 dm_11 dm_12 dm_13
        go_wp2_with fail
        refine (HT1.out _).mono ?_
        rintro e w4 ⟨rfl, hb⟩
        have Hm_4 := Lib.hid (Hm_3.out.below hb)
        have Hr_4 := Lib.hid (Hr_3.out.below hb)
        have Rn_4 := Lib.hid (Rn_3.out.below hb)
        have BW_4 := Lib.hid (below_trans BW_3.out hb BW_3.out.size)
        clear hb 
        obtain ⟨v5, hW⟩ : ∃ W, W = w4.alloc (.cells #[.int .i64 m1, .int .i64 m2, .int .i64 m3, .int .i64 m4, .int .i64 m5, .int .i64 m6, .int .i64 k1, .int .i64 k2, .int .i64 k3, .int .i64 k4, .int .i64 k5, .string ⟨t1.toArray⟩, .string ⟨t2.toArray⟩, .string ⟨t3.toArray⟩] 25) := ⟨_, rfl⟩
        have hbn : Below w4.heap.size w4 v5 := by rw [hW]; exact (Below.refl _ _).alloc (Nat.le_refl _) _
        have Hk := Lib.hid (show TBox v5 w4.heap.size 25 #[.int .i64 m1, .int .i64 m2, .int .i64 m3, .int .i64 m4, .int .i64 m5, .int .i64 m6, .int .i64 k1, .int .i64 k2, .int .i64 k3, .int .i64 k4, .int .i64 k5, .string ⟨t1.toArray⟩, .string ⟨t2.toArray⟩, .string ⟨t3.toArray⟩] from by rw [hW]; exact TBox.new _ _ _)
        have HWv5 := Lib.hid hW
        clear hW
        have Hm_v5 := Lib.hid (Hm_4.out.below hbn)
        have Hr_v5 := Lib.hid (Hr_4.out.below hbn)
        have Rn_v5 := Lib.hid (Rn_4.out.below hbn)
        have BW_v5 := Lib.hid (below_trans BW_4.out hbn BW_4.out.size)
        clear hbn
        have ltm := Hm_4.out.lt
        have ltr := Hr_4.out.lt
        have cr_0 : w4.cell? ⟨w.heap.size + 1, 0, none⟩ = some (.int .i64 r1) := Hr_4.out.cell 0
        have cr_1 : w4.cell? ⟨w.heap.size + 1, 1, none⟩ = some (.int .i64 r2) := Hr_4.out.cell 1
        have cr_2 : w4.cell? ⟨w.heap.size + 1, 2, none⟩ = some (.int .i64 r3) := Hr_4.out.cell 2
        have cr_3 : w4.cell? ⟨w.heap.size + 1, 3, none⟩ = some (.int .i64 r4) := Hr_4.out.cell 3
        have cr_4 : w4.cell? ⟨w.heap.size + 1, 4, none⟩ = some (.int .i64 r5) := Hr_4.out.cell 4
        have cr_5 : w4.cell? ⟨w.heap.size + 1, 5, none⟩ = some (.int .i64 r6) := Hr_4.out.cell 5
        have cr_6 : w4.cell? ⟨w.heap.size + 1, 6, none⟩ = some (.int .i64 r7) := Hr_4.out.cell 6
        have cr_7 : w4.cell? ⟨w.heap.size + 1, 7, none⟩ = some (.int .i64 r8) := Hr_4.out.cell 7
        have cr_8 : w4.cell? ⟨w.heap.size + 1, 8, none⟩ = some (.int .i64 r9) := Hr_4.out.cell 8
        have cr_9 : w4.cell? ⟨w.heap.size + 1, 9, none⟩ = some (.string ⟨tx.toArray⟩) := Hr_4.out.cell 9
        have cr_10 : w4.cell? ⟨w.heap.size + 1, 10, none⟩ = some (.slice A ls.length cp) := Hr_4.out.cell 10
        go_wp2_with fail
        rw [← HWv5.out]
        refine (HRs.out _ _ ⟨A, cp, rfl, Rn_v5.out⟩).mono ?_
        rintro e w6 ⟨rfl, hb⟩
        have Hm_6 := Lib.hid (Hm_v5.out.below hb)
        have Hr_6 := Lib.hid (Hr_v5.out.below hb)
        have Hk_6 := Lib.hid (Hk.out.below hb)
        have Rn_6 := Lib.hid (Rn_v5.out.below hb)
        have BW_6 := Lib.hid (below_trans BW_v5.out hb BW_v5.out.size)
        clear hb 
        clear cr_0 cr_1 cr_2 cr_3 cr_4 cr_5 cr_6 cr_7 cr_8 cr_9 cr_10
        go_wp2_with fail
        refine (HT2.out _).mono ?_
        rintro e w7 ⟨B, cq, rfl, ho, hb⟩
        have Hm_7 := Lib.hid (Hm_6.out.below hb)
        have Hr_7 := Lib.hid (Hr_6.out.below hb)
        have Hk_7 := Lib.hid (Hk_6.out.below hb)
        have Rn_7 := Lib.hid (Rn_6.out.below hb)
        have BW_7 := Lib.hid (below_trans BW_6.out hb BW_6.out.size)
        have Rq0 := Lib.hid (Row.of_owns ho)
        clear ho
        clear hb 
        obtain ⟨v8, hW⟩ : ∃ W, W = w7.alloc (.cells #[.int .i64 r1, .int .i64 r2, .int .i64 r3, .int .i64 r4, .int .i64 r5, .int .i64 r6, .int .i64 r7, .int .i64 r8, .int .i64 r9, .string ⟨tx.toArray⟩, .slice B ls.length cq] 31) := ⟨_, rfl⟩
        have hbn : Below w7.heap.size w7 v8 := by rw [hW]; exact (Below.refl _ _).alloc (Nat.le_refl _) _
        have Hq := Lib.hid (show TBox v8 w7.heap.size 31 #[.int .i64 r1, .int .i64 r2, .int .i64 r3, .int .i64 r4, .int .i64 r5, .int .i64 r6, .int .i64 r7, .int .i64 r8, .int .i64 r9, .string ⟨tx.toArray⟩, .slice B ls.length cq] from by rw [hW]; exact TBox.new _ _ _)
        have HWv8 := Lib.hid hW
        clear hW
        have Hm_v8 := Lib.hid (Hm_7.out.below hbn)
        have Hr_v8 := Lib.hid (Hr_7.out.below hbn)
        have Hk_v8 := Lib.hid (Hk_7.out.below hbn)
        have Rn_v8 := Lib.hid (Rn_7.out.below hbn)
        have Rq_v8 := Lib.hid (Rq0.out.below hbn)
        have BW_v8 := Lib.hid (below_trans BW_7.out hbn BW_7.out.size)
        clear hbn
        have ltm := Hm_7.out.lt
        have ltr := Hr_7.out.lt
        have ltk := Hk_7.out.lt
        have cm_0 : w7.cell? ⟨w.heap.size, 0, none⟩ = some (.int .i64 m1) := Hm_7.out.cell 0
        have cm_1 : w7.cell? ⟨w.heap.size, 1, none⟩ = some (.int .i64 m2) := Hm_7.out.cell 1
        have cm_2 : w7.cell? ⟨w.heap.size, 2, none⟩ = some (.int .i64 m3) := Hm_7.out.cell 2
        have cm_3 : w7.cell? ⟨w.heap.size, 3, none⟩ = some (.int .i64 m4) := Hm_7.out.cell 3
        have cm_4 : w7.cell? ⟨w.heap.size, 4, none⟩ = some (.int .i64 m5) := Hm_7.out.cell 4
        have cm_5 : w7.cell? ⟨w.heap.size, 5, none⟩ = some (.int .i64 m6) := Hm_7.out.cell 5
        have cm_6 : w7.cell? ⟨w.heap.size, 6, none⟩ = some (.int .i64 k1) := Hm_7.out.cell 6
        have cm_7 : w7.cell? ⟨w.heap.size, 7, none⟩ = some (.int .i64 k2) := Hm_7.out.cell 7
        have cm_8 : w7.cell? ⟨w.heap.size, 8, none⟩ = some (.int .i64 k3) := Hm_7.out.cell 8
        have cm_9 : w7.cell? ⟨w.heap.size, 9, none⟩ = some (.int .i64 k4) := Hm_7.out.cell 9
        have cm_10 : w7.cell? ⟨w.heap.size, 10, none⟩ = some (.int .i64 k5) := Hm_7.out.cell 10
        have cm_11 : w7.cell? ⟨w.heap.size, 11, none⟩ = some (.string ⟨t1.toArray⟩) := Hm_7.out.cell 11
        have cm_12 : w7.cell? ⟨w.heap.size, 12, none⟩ = some (.string ⟨t2.toArray⟩) := Hm_7.out.cell 12
        have cm_13 : w7.cell? ⟨w.heap.size, 13, none⟩ = some (.string ⟨t3.toArray⟩) := Hm_7.out.cell 13
        go_wp2_with fail
        rw [← HWv8.out]
        refine (HCs.out _).mono ?_
        rintro e w9 ⟨rfl, hb⟩
        have Hm_9 := Lib.hid (Hm_v8.out.below hb)
        have Hr_9 := Lib.hid (Hr_v8.out.below hb)
        have Hk_9 := Lib.hid (Hk_v8.out.below hb)
        have Hq_9 := Lib.hid (Hq.out.below hb)
        have Rn_9 := Lib.hid (Rn_v8.out.below hb)
        have Rq_9 := Lib.hid (Rq_v8.out.below hb)
        have BW_9 := Lib.hid (below_trans BW_v8.out hb BW_v8.out.size)
        clear hb 
        clear cm_0 cm_1 cm_2 cm_3 cm_4 cm_5 cm_6 cm_7 cm_8 cm_9 cm_10 cm_11 cm_12 cm_13
        have hq : ¬ 9223372036854775807 < CB.length + more.length := by omega
        go_wp2_with fail
        refine (HT3.out _).mono ?_
        rintro e w10 ⟨rfl, hb⟩
        have Hm_10 := Lib.hid (Hm_9.out.below hb)
        have Hr_10 := Lib.hid (Hr_9.out.below hb)
        have Hk_10 := Lib.hid (Hk_9.out.below hb)
        have Hq_10 := Lib.hid (Hq_9.out.below hb)
        have Rn_10 := Lib.hid (Rn_9.out.below hb)
        have Rq_10 := Lib.hid (Rq_9.out.below hb)
        have BW_10 := Lib.hid (below_trans BW_9.out hb BW_9.out.size)
        clear hb 
        obtain ⟨v11, hW⟩ : ∃ W, W = w10.alloc (.cells #[.int .i64 k1, .int .i64 k2, .int .i64 k3, .int .i64 k4, .int .i64 k5, .string ⟨t1.toArray⟩, .string ⟨t2.toArray⟩, .string ⟨t3.toArray⟩] 23) := ⟨_, rfl⟩
        have hbn : Below w10.heap.size w10 v11 := by rw [hW]; exact (Below.refl _ _).alloc (Nat.le_refl _) _
        have Hc := Lib.hid (show TBox v11 w10.heap.size 23 #[.int .i64 k1, .int .i64 k2, .int .i64 k3, .int .i64 k4, .int .i64 k5, .string ⟨t1.toArray⟩, .string ⟨t2.toArray⟩, .string ⟨t3.toArray⟩] from by rw [hW]; exact TBox.new _ _ _)
        have HWv11 := Lib.hid hW
        clear hW
        have Hm_v11 := Lib.hid (Hm_10.out.below hbn)
        have Hr_v11 := Lib.hid (Hr_10.out.below hbn)
        have Hk_v11 := Lib.hid (Hk_10.out.below hbn)
        have Hq_v11 := Lib.hid (Hq_10.out.below hbn)
        have Rn_v11 := Lib.hid (Rn_10.out.below hbn)
        have Rq_v11 := Lib.hid (Rq_10.out.below hbn)
        have BW_v11 := Lib.hid (below_trans BW_10.out hbn BW_10.out.size)
        clear hbn
        have ltm := Hm_10.out.lt
        have ltr := Hr_10.out.lt
        have ltk := Hk_10.out.lt
        have ltq := Hq_10.out.lt
        have cm_0 : w10.cell? ⟨w.heap.size, 0, none⟩ = some (.int .i64 m1) := Hm_10.out.cell 0
        have cm_1 : w10.cell? ⟨w.heap.size, 1, none⟩ = some (.int .i64 m2) := Hm_10.out.cell 1
        have cm_2 : w10.cell? ⟨w.heap.size, 2, none⟩ = some (.int .i64 m3) := Hm_10.out.cell 2
        have cm_3 : w10.cell? ⟨w.heap.size, 3, none⟩ = some (.int .i64 m4) := Hm_10.out.cell 3
        have cm_4 : w10.cell? ⟨w.heap.size, 4, none⟩ = some (.int .i64 m5) := Hm_10.out.cell 4
        have cm_5 : w10.cell? ⟨w.heap.size, 5, none⟩ = some (.int .i64 m6) := Hm_10.out.cell 5
        have cm_6 : w10.cell? ⟨w.heap.size, 6, none⟩ = some (.int .i64 k1) := Hm_10.out.cell 6
        have cm_7 : w10.cell? ⟨w.heap.size, 7, none⟩ = some (.int .i64 k2) := Hm_10.out.cell 7
        have cm_8 : w10.cell? ⟨w.heap.size, 8, none⟩ = some (.int .i64 k3) := Hm_10.out.cell 8
        have cm_9 : w10.cell? ⟨w.heap.size, 9, none⟩ = some (.int .i64 k4) := Hm_10.out.cell 9
        have cm_10 : w10.cell? ⟨w.heap.size, 10, none⟩ = some (.int .i64 k5) := Hm_10.out.cell 10
        have cm_11 : w10.cell? ⟨w.heap.size, 11, none⟩ = some (.string ⟨t1.toArray⟩) := Hm_10.out.cell 11
        have cm_12 : w10.cell? ⟨w.heap.size, 12, none⟩ = some (.string ⟨t2.toArray⟩) := Hm_10.out.cell 12
        have cm_13 : w10.cell? ⟨w.heap.size, 13, none⟩ = some (.string ⟨t3.toArray⟩) := Hm_10.out.cell 13
        go_wp2_with fail
        rw [← HWv11.out]
        refine (HMs.out _).mono ?_
        rintro e w12 ⟨rfl, hb⟩
        have Hm_12 := Lib.hid (Hm_v11.out.below hb)
        have Hr_12 := Lib.hid (Hr_v11.out.below hb)
        have Hk_12 := Lib.hid (Hk_v11.out.below hb)
        have Hq_12 := Lib.hid (Hq_v11.out.below hb)
        have Hc_12 := Lib.hid (Hc.out.below hb)
        have Rn_12 := Lib.hid (Rn_v11.out.below hb)
        have Rq_12 := Lib.hid (Rq_v11.out.below hb)
        have BW_12 := Lib.hid (below_trans BW_v11.out hb BW_v11.out.size)
        clear hb 
        clear cm_0 cm_1 cm_2 cm_3 cm_4 cm_5 cm_6 cm_7 cm_8 cm_9 cm_10 cm_11 cm_12 cm_13
        go_wp2_with fail
        refine (HT4.out _).mono ?_
        rintro e w13 ⟨D, cd, rfl, ho, hb⟩
        have Hm_13 := Lib.hid (Hm_12.out.below hb)
        have Hr_13 := Lib.hid (Hr_12.out.below hb)
        have Hk_13 := Lib.hid (Hk_12.out.below hb)
        have Hq_13 := Lib.hid (Hq_12.out.below hb)
        have Hc_13 := Lib.hid (Hc_12.out.below hb)
        have Rn_13 := Lib.hid (Rn_12.out.below hb)
        have Rq_13 := Lib.hid (Rq_12.out.below hb)
        have BW_13 := Lib.hid (below_trans BW_12.out hb BW_12.out.size)
        clear ho
        clear hb 
        obtain ⟨v14, hW⟩ : ∃ W, W = w13.alloc (.cells #[.int .i64 0, .int .i64 0, .int .i64 0, .int .i64 0, .int .i64 0, .int .i64 0, .int .i64 0, .int .i64 0, .int .i64 0, .string ⟨#[]⟩, .slice D 0 cd] 31) := ⟨_, rfl⟩
        have hbn : Below w13.heap.size w13 v14 := by rw [hW]; exact (Below.refl _ _).alloc (Nat.le_refl _) _
        have Hy := Lib.hid (show TBox v14 w13.heap.size 31 #[.int .i64 0, .int .i64 0, .int .i64 0, .int .i64 0, .int .i64 0, .int .i64 0, .int .i64 0, .int .i64 0, .int .i64 0, .string ⟨#[]⟩, .slice D 0 cd] from by rw [hW]; exact TBox.new _ _ _)
        have HWv14 := Lib.hid hW
        clear hW
        have Hm_v14 := Lib.hid (Hm_13.out.below hbn)
        have Hr_v14 := Lib.hid (Hr_13.out.below hbn)
        have Hk_v14 := Lib.hid (Hk_13.out.below hbn)
        have Hq_v14 := Lib.hid (Hq_13.out.below hbn)
        have Hc_v14 := Lib.hid (Hc_13.out.below hbn)
        have Rn_v14 := Lib.hid (Rn_13.out.below hbn)
        have Rq_v14 := Lib.hid (Rq_13.out.below hbn)
        have BW_v14 := Lib.hid (below_trans BW_13.out hbn BW_13.out.size)
        clear hbn
        have ltm := Hm_13.out.lt
        have ltr := Hr_13.out.lt
        have ltk := Hk_13.out.lt
        have ltq := Hq_13.out.lt
        have ltc := Hc_13.out.lt
        have cr_0 : w13.cell? ⟨w.heap.size + 1, 0, none⟩ = some (.int .i64 r1) := Hr_13.out.cell 0
        have cr_1 : w13.cell? ⟨w.heap.size + 1, 1, none⟩ = some (.int .i64 r2) := Hr_13.out.cell 1
        have cr_2 : w13.cell? ⟨w.heap.size + 1, 2, none⟩ = some (.int .i64 r3) := Hr_13.out.cell 2
        have cr_3 : w13.cell? ⟨w.heap.size + 1, 3, none⟩ = some (.int .i64 r4) := Hr_13.out.cell 3
        have cr_4 : w13.cell? ⟨w.heap.size + 1, 4, none⟩ = some (.int .i64 r5) := Hr_13.out.cell 4
        have cr_5 : w13.cell? ⟨w.heap.size + 1, 5, none⟩ = some (.int .i64 r6) := Hr_13.out.cell 5
        have cr_6 : w13.cell? ⟨w.heap.size + 1, 6, none⟩ = some (.int .i64 r7) := Hr_13.out.cell 6
        have cr_7 : w13.cell? ⟨w.heap.size + 1, 7, none⟩ = some (.int .i64 r8) := Hr_13.out.cell 7
        have cr_8 : w13.cell? ⟨w.heap.size + 1, 8, none⟩ = some (.int .i64 r9) := Hr_13.out.cell 8
        have cr_9 : w13.cell? ⟨w.heap.size + 1, 9, none⟩ = some (.string ⟨tx.toArray⟩) := Hr_13.out.cell 9
        have cr_10 : w13.cell? ⟨w.heap.size + 1, 10, none⟩ = some (.slice A ls.length cp) := Hr_13.out.cell 10
        go_wp2_with fail
        rw [← HWv14.out]
        refine (HRs.out _ _ ⟨A, cp, rfl, Rn_v14.out⟩).mono ?_
        rintro e w15 ⟨rfl, hb⟩
        have Hm_15 := Lib.hid (Hm_v14.out.below hb)
        have Hr_15 := Lib.hid (Hr_v14.out.below hb)
        have Hk_15 := Lib.hid (Hk_v14.out.below hb)
        have Hq_15 := Lib.hid (Hq_v14.out.below hb)
        have Hc_15 := Lib.hid (Hc_v14.out.below hb)
        have Hy_15 := Lib.hid (Hy.out.below hb)
        have Rn_15 := Lib.hid (Rn_v14.out.below hb)
        have Rq_15 := Lib.hid (Rq_v14.out.below hb)
        have BW_15 := Lib.hid (below_trans BW_v14.out hb BW_v14.out.size)
        clear hb 
        clear cr_0 cr_1 cr_2 cr_3 cr_4 cr_5 cr_6 cr_7 cr_8 cr_9 cr_10
        go_wp2_with fail
        refine (HT5.out _).mono ?_
        rintro e w16 ⟨rfl, hb⟩
        have Hm_16 := Lib.hid (Hm_15.out.below hb)
        have Hr_16 := Lib.hid (Hr_15.out.below hb)
        have Hk_16 := Lib.hid (Hk_15.out.below hb)
        have Hq_16 := Lib.hid (Hq_15.out.below hb)
        have Hc_16 := Lib.hid (Hc_15.out.below hb)
        have Hy_16 := Lib.hid (Hy_15.out.below hb)
        have Rn_16 := Lib.hid (Rn_15.out.below hb)
        have Rq_16 := Lib.hid (Rq_15.out.below hb)
        have BW_16 := Lib.hid (below_trans BW_15.out hb BW_15.out.size)
        clear hb 
        obtain ⟨v17, hW⟩ : ∃ W, W = w16.alloc (.cells #[.int .i64 0, .int .i64 0, .int .i64 0, .int .i64 0, .int .i64 0, .int .i64 0, .int .i64 0, .int .i64 0, .int .i64 0, .int .i64 0, .int .i64 0, .string ⟨#[]⟩, .string ⟨#[]⟩, .string ⟨#[]⟩] 25) := ⟨_, rfl⟩
        have hbn : Below w16.heap.size w16 v17 := by rw [hW]; exact (Below.refl _ _).alloc (Nat.le_refl _) _
        have Hz := Lib.hid (show TBox v17 w16.heap.size 25 #[.int .i64 0, .int .i64 0, .int .i64 0, .int .i64 0, .int .i64 0, .int .i64 0, .int .i64 0, .int .i64 0, .int .i64 0, .int .i64 0, .int .i64 0, .string ⟨#[]⟩, .string ⟨#[]⟩, .string ⟨#[]⟩] from by rw [hW]; exact TBox.new _ _ _)
        have HWv17 := Lib.hid hW
        clear hW
        have Hm_v17 := Lib.hid (Hm_16.out.below hbn)
        have Hr_v17 := Lib.hid (Hr_16.out.below hbn)
        have Hk_v17 := Lib.hid (Hk_16.out.below hbn)
        have Hq_v17 := Lib.hid (Hq_16.out.below hbn)
        have Hc_v17 := Lib.hid (Hc_16.out.below hbn)
        have Hy_v17 := Lib.hid (Hy_16.out.below hbn)
        have Rn_v17 := Lib.hid (Rn_16.out.below hbn)
        have Rq_v17 := Lib.hid (Rq_16.out.below hbn)
        have BW_v17 := Lib.hid (below_trans BW_16.out hbn BW_16.out.size)
        clear hbn
        have ltm := Hm_16.out.lt
        have ltr := Hr_16.out.lt
        have ltk := Hk_16.out.lt
        have ltq := Hq_16.out.lt
        have ltc := Hc_16.out.lt
        have lty := Hy_16.out.lt
        have cm_0 : w16.cell? ⟨w.heap.size, 0, none⟩ = some (.int .i64 m1) := Hm_16.out.cell 0
        have cm_1 : w16.cell? ⟨w.heap.size, 1, none⟩ = some (.int .i64 m2) := Hm_16.out.cell 1
        have cm_2 : w16.cell? ⟨w.heap.size, 2, none⟩ = some (.int .i64 m3) := Hm_16.out.cell 2
        have cm_3 : w16.cell? ⟨w.heap.size, 3, none⟩ = some (.int .i64 m4) := Hm_16.out.cell 3
        have cm_4 : w16.cell? ⟨w.heap.size, 4, none⟩ = some (.int .i64 m5) := Hm_16.out.cell 4
        have cm_5 : w16.cell? ⟨w.heap.size, 5, none⟩ = some (.int .i64 m6) := Hm_16.out.cell 5
        have cm_6 : w16.cell? ⟨w.heap.size, 6, none⟩ = some (.int .i64 k1) := Hm_16.out.cell 6
        have cm_7 : w16.cell? ⟨w.heap.size, 7, none⟩ = some (.int .i64 k2) := Hm_16.out.cell 7
        have cm_8 : w16.cell? ⟨w.heap.size, 8, none⟩ = some (.int .i64 k3) := Hm_16.out.cell 8
        have cm_9 : w16.cell? ⟨w.heap.size, 9, none⟩ = some (.int .i64 k4) := Hm_16.out.cell 9
        have cm_10 : w16.cell? ⟨w.heap.size, 10, none⟩ = some (.int .i64 k5) := Hm_16.out.cell 10
        have cm_11 : w16.cell? ⟨w.heap.size, 11, none⟩ = some (.string ⟨t1.toArray⟩) := Hm_16.out.cell 11
        have cm_12 : w16.cell? ⟨w.heap.size, 12, none⟩ = some (.string ⟨t2.toArray⟩) := Hm_16.out.cell 12
        have cm_13 : w16.cell? ⟨w.heap.size, 13, none⟩ = some (.string ⟨t3.toArray⟩) := Hm_16.out.cell 13
        have cr_0 : w16.cell? ⟨w.heap.size + 1, 0, none⟩ = some (.int .i64 r1) := Hr_16.out.cell 0
        have cr_1 : w16.cell? ⟨w.heap.size + 1, 1, none⟩ = some (.int .i64 r2) := Hr_16.out.cell 1
        have cr_2 : w16.cell? ⟨w.heap.size + 1, 2, none⟩ = some (.int .i64 r3) := Hr_16.out.cell 2
        have cr_3 : w16.cell? ⟨w.heap.size + 1, 3, none⟩ = some (.int .i64 r4) := Hr_16.out.cell 3
        have cr_4 : w16.cell? ⟨w.heap.size + 1, 4, none⟩ = some (.int .i64 r5) := Hr_16.out.cell 4
        have cr_5 : w16.cell? ⟨w.heap.size + 1, 5, none⟩ = some (.int .i64 r6) := Hr_16.out.cell 5
        have cr_6 : w16.cell? ⟨w.heap.size + 1, 6, none⟩ = some (.int .i64 r7) := Hr_16.out.cell 6
        have cr_7 : w16.cell? ⟨w.heap.size + 1, 7, none⟩ = some (.int .i64 r8) := Hr_16.out.cell 7
        have cr_8 : w16.cell? ⟨w.heap.size + 1, 8, none⟩ = some (.int .i64 r9) := Hr_16.out.cell 8
        have cr_9 : w16.cell? ⟨w.heap.size + 1, 9, none⟩ = some (.string ⟨tx.toArray⟩) := Hr_16.out.cell 9
        have cr_10 : w16.cell? ⟨w.heap.size + 1, 10, none⟩ = some (.slice A ls.length cp) := Hr_16.out.cell 10
        have ck_0 : w16.cell? ⟨w4.heap.size, 0, none⟩ = some (.int .i64 m1) := Hk_16.out.cell 0
        have ck_1 : w16.cell? ⟨w4.heap.size, 1, none⟩ = some (.int .i64 m2) := Hk_16.out.cell 1
        have ck_2 : w16.cell? ⟨w4.heap.size, 2, none⟩ = some (.int .i64 m3) := Hk_16.out.cell 2
        have ck_3 : w16.cell? ⟨w4.heap.size, 3, none⟩ = some (.int .i64 m4) := Hk_16.out.cell 3
        have ck_4 : w16.cell? ⟨w4.heap.size, 4, none⟩ = some (.int .i64 m5) := Hk_16.out.cell 4
        have ck_5 : w16.cell? ⟨w4.heap.size, 5, none⟩ = some (.int .i64 m6) := Hk_16.out.cell 5
        have ck_6 : w16.cell? ⟨w4.heap.size, 6, none⟩ = some (.int .i64 k1) := Hk_16.out.cell 6
        have ck_7 : w16.cell? ⟨w4.heap.size, 7, none⟩ = some (.int .i64 k2) := Hk_16.out.cell 7
        have ck_8 : w16.cell? ⟨w4.heap.size, 8, none⟩ = some (.int .i64 k3) := Hk_16.out.cell 8
        have ck_9 : w16.cell? ⟨w4.heap.size, 9, none⟩ = some (.int .i64 k4) := Hk_16.out.cell 9
        have ck_10 : w16.cell? ⟨w4.heap.size, 10, none⟩ = some (.int .i64 k5) := Hk_16.out.cell 10
        have ck_11 : w16.cell? ⟨w4.heap.size, 11, none⟩ = some (.string ⟨t1.toArray⟩) := Hk_16.out.cell 11
        have ck_12 : w16.cell? ⟨w4.heap.size, 12, none⟩ = some (.string ⟨t2.toArray⟩) := Hk_16.out.cell 12
        have ck_13 : w16.cell? ⟨w4.heap.size, 13, none⟩ = some (.string ⟨t3.toArray⟩) := Hk_16.out.cell 13
        have cq_0 : w16.cell? ⟨w7.heap.size, 0, none⟩ = some (.int .i64 r1) := Hq_16.out.cell 0
        have cq_1 : w16.cell? ⟨w7.heap.size, 1, none⟩ = some (.int .i64 r2) := Hq_16.out.cell 1
        have cq_2 : w16.cell? ⟨w7.heap.size, 2, none⟩ = some (.int .i64 r3) := Hq_16.out.cell 2
        have cq_3 : w16.cell? ⟨w7.heap.size, 3, none⟩ = some (.int .i64 r4) := Hq_16.out.cell 3
        have cq_4 : w16.cell? ⟨w7.heap.size, 4, none⟩ = some (.int .i64 r5) := Hq_16.out.cell 4
        have cq_5 : w16.cell? ⟨w7.heap.size, 5, none⟩ = some (.int .i64 r6) := Hq_16.out.cell 5
        have cq_6 : w16.cell? ⟨w7.heap.size, 6, none⟩ = some (.int .i64 r7) := Hq_16.out.cell 6
        have cq_7 : w16.cell? ⟨w7.heap.size, 7, none⟩ = some (.int .i64 r8) := Hq_16.out.cell 7
        have cq_8 : w16.cell? ⟨w7.heap.size, 8, none⟩ = some (.int .i64 r9) := Hq_16.out.cell 8
        have cq_9 : w16.cell? ⟨w7.heap.size, 9, none⟩ = some (.string ⟨tx.toArray⟩) := Hq_16.out.cell 9
        have cq_10 : w16.cell? ⟨w7.heap.size, 10, none⟩ = some (.slice B ls.length cq) := Hq_16.out.cell 10
        go_wp2_with fail
        rw [← HWv17.out]
        refine (HS.out _ _ _ ⟨B, cq, rfl, Rq_v17.out⟩ ⟨A, cp, rfl, Rn_v17.out⟩).mono ?_
        rintro e w18 ⟨rfl, hb⟩
        have Hm_18 := Lib.hid (Hm_v17.out.below hb)
        have Hr_18 := Lib.hid (Hr_v17.out.below hb)
        have Hk_18 := Lib.hid (Hk_v17.out.below hb)
        have Hq_18 := Lib.hid (Hq_v17.out.below hb)
        have Hc_18 := Lib.hid (Hc_v17.out.below hb)
        have Hy_18 := Lib.hid (Hy_v17.out.below hb)
        have Hz_18 := Lib.hid (Hz.out.below hb)
        have Rn_18 := Lib.hid (Rn_v17.out.below hb)
        have Rq_18 := Lib.hid (Rq_v17.out.below hb)
        have BW_18 := Lib.hid (below_trans BW_v17.out hb BW_v17.out.size)
        clear hb 
        clear cm_0 cm_1 cm_2 cm_3 cm_4 cm_5 cm_6 cm_7 cm_8 cm_9 cm_10 cm_11 cm_12 cm_13 cr_0 cr_1 cr_2 cr_3 cr_4 cr_5 cr_6 cr_7 cr_8 cr_9 cr_10 ck_0 ck_1 ck_2 ck_3 ck_4 ck_5 ck_6 ck_7 ck_8 ck_9 ck_10 ck_11 ck_12 ck_13 cq_0 cq_1 cq_2 cq_3 cq_4 cq_5 cq_6 cq_7 cq_8 cq_9 cq_10
        have cm_0 : w18.cell? ⟨w.heap.size, 0, none⟩ = some (.int .i64 m1) := Hm_18.out.cell 0
        have cm_1 : w18.cell? ⟨w.heap.size, 1, none⟩ = some (.int .i64 m2) := Hm_18.out.cell 1
        have cm_2 : w18.cell? ⟨w.heap.size, 2, none⟩ = some (.int .i64 m3) := Hm_18.out.cell 2
        have cm_3 : w18.cell? ⟨w.heap.size, 3, none⟩ = some (.int .i64 m4) := Hm_18.out.cell 3
        have cm_4 : w18.cell? ⟨w.heap.size, 4, none⟩ = some (.int .i64 m5) := Hm_18.out.cell 4
        have cm_5 : w18.cell? ⟨w.heap.size, 5, none⟩ = some (.int .i64 m6) := Hm_18.out.cell 5
        have cm_6 : w18.cell? ⟨w.heap.size, 6, none⟩ = some (.int .i64 k1) := Hm_18.out.cell 6
        have cm_7 : w18.cell? ⟨w.heap.size, 7, none⟩ = some (.int .i64 k2) := Hm_18.out.cell 7
        have cm_8 : w18.cell? ⟨w.heap.size, 8, none⟩ = some (.int .i64 k3) := Hm_18.out.cell 8
        have cm_9 : w18.cell? ⟨w.heap.size, 9, none⟩ = some (.int .i64 k4) := Hm_18.out.cell 9
        have cm_10 : w18.cell? ⟨w.heap.size, 10, none⟩ = some (.int .i64 k5) := Hm_18.out.cell 10
        have cm_11 : w18.cell? ⟨w.heap.size, 11, none⟩ = some (.string ⟨t1.toArray⟩) := Hm_18.out.cell 11
        have cm_12 : w18.cell? ⟨w.heap.size, 12, none⟩ = some (.string ⟨t2.toArray⟩) := Hm_18.out.cell 12
        have cm_13 : w18.cell? ⟨w.heap.size, 13, none⟩ = some (.string ⟨t3.toArray⟩) := Hm_18.out.cell 13
        have cc_0 : w18.cell? ⟨w10.heap.size, 0, none⟩ = some (.int .i64 k1) := Hc_18.out.cell 0
        have cc_1 : w18.cell? ⟨w10.heap.size, 1, none⟩ = some (.int .i64 k2) := Hc_18.out.cell 1
        have cc_2 : w18.cell? ⟨w10.heap.size, 2, none⟩ = some (.int .i64 k3) := Hc_18.out.cell 2
        have cc_3 : w18.cell? ⟨w10.heap.size, 3, none⟩ = some (.int .i64 k4) := Hc_18.out.cell 3
        have cc_4 : w18.cell? ⟨w10.heap.size, 4, none⟩ = some (.int .i64 k5) := Hc_18.out.cell 4
        have cc_5 : w18.cell? ⟨w10.heap.size, 5, none⟩ = some (.string ⟨t1.toArray⟩) := Hc_18.out.cell 5
        have cc_6 : w18.cell? ⟨w10.heap.size, 6, none⟩ = some (.string ⟨t2.toArray⟩) := Hc_18.out.cell 6
        have cc_7 : w18.cell? ⟨w10.heap.size, 7, none⟩ = some (.string ⟨t3.toArray⟩) := Hc_18.out.cell 7
        go_wp2_with fail
        go_ret
        exact ⟨rfl, BW_18.out⟩
theorem own : ownKnob Try.prog.godebug = none := by kernel_rfl
theorem laidOut : laidOutB Try.prog = true := by kernel_rfl
theorem cellscopyhold_api_Msg : Try.prog.cellsOf 25 = 14 := by kernel_rfl
theorem cellsint : Try.prog.cellsOf 3 = 1 := by kernel_rfl
theorem cellscopyhold_api_Call : Try.prog.cellsOf 23 = 8 := by kernel_rfl
theorem cellsstring : Try.prog.cellsOf 9 = 1 := by kernel_rfl
theorem cellscopyhold_api_Rsp : Try.prog.cellsOf 31 = 11 := by kernel_rfl
theorem cellscopyhold_api_Reply : Try.prog.cellsOf 29 = 6 := by kernel_rfl
theorem cellscopyhold_api_Errno : Try.prog.cellsOf 26 = 1 := by kernel_rfl
theorem cells__string : Try.prog.cellsOf 27 = 1 := by kernel_rfl

set_option maxRecDepth 100000 in
set_option maxHeartbeats 1000000 in
theorem lifted (os : Os) (started : os.Started) (H : Type) (enc : TypeId × Value → H) :
    ReturnsInHanded {} Try.checked os 5 .any (Rows.wireBackSpec.pre6 enc Try.prog Try.f5 Rows.wireBackRow.domain false) (Rows.wireBackSpec.post enc Try.prog Try.f5 false true false false) := by
  refine returnsInHanded_of_change_sized (C := Try.checked) own started (by kernel_rfl) Try.func5
    (ChangeSpec.witness6 (enc := enc) (C := Try.checked) false ⟨#[], #[.agg #[.int .i64 0, .int .i64 0, .int .i64 0, .int .i64 0, .int .i64 0, .int .i64 0, .int .i64 0, .int .i64 0, .int .i64 0, .int .i64 0, .int .i64 0, .string ByteArray.empty, .string ByteArray.empty, .string ByteArray.empty], .agg #[.int .i64 0, .int .i64 0, .int .i64 0, .int .i64 0, .int .i64 0, .int .i64 0, .int .i64 0, .int .i64 0, .int .i64 0, .string ByteArray.empty, .slice none 0 0], .string ByteArray.empty], []⟩ 8 (by kernel_rfl) (by kernel_rfl) (by kernel_rfl) (by kernel_rfl)) ?_
  intro W base args ds gs before hval0 hW hcnd hsz0 _
  have hsz : (DataW.weightsEach Try.prog (Try.f5.params.toList ++ []) (ds ++ gs)).all (· ≤ reachBytes) = true := hsz0
  clear hsz0
  have hval : ∀ (j : Nat) t v, Try.f5.params[j]? = some t → args[j]? = some v → Value.okWide Try.prog W .any base t v := hval0
  have hW' := hW
  have hlt := hW.lt
  obtain ⟨p, q, hA0, hV, rfl, hfz, hnd⟩ := hW
  have hA : DataW.TrodAll enc Try.prog W 0 (fun _ => true) true Try.f5.params.toList args.toList ds p := hA0
  rw [Try.params5] at hA hval
  obtain ⟨v0, vs0, d0, ds0, p0, q0, hargs, rfl, rfl, h0, r0⟩ := trodAll_cons hA
  obtain ⟨v1, vs1, d1, ds1, p1, q1, rfl, rfl, rfl, h1, r1⟩ := trodAll_cons r0
  obtain ⟨v2, vs2, d2, ds2, p2, q2, rfl, rfl, rfl, h2, r2⟩ := trodAll_cons r1
  obtain ⟨rfl, rfl, rfl⟩ := trodAll_nil r2
  obtain rfl : args = #[v0, v1, v2] := by cases args; simp_all
  obtain ⟨rfl, rfl⟩ := trodVars_none hV
  obtain ⟨cs0, rfl, hcz0⟩ := okWide_struct Try.underlying25 (hval 0 25 v0 rfl rfl)
  rw [cellscopyhold_api_Msg] at hcz0
  obtain ⟨c0_0, c0_1, c0_2, c0_3, c0_4, c0_5, c0_6_0, c0_6_1, c0_6_2, c0_6_3, c0_6_4, c0_6_5, c0_6_6, c0_6_7, rfl⟩ := array14_of hcz0
  obtain ⟨fuel0, hf0⟩ := h0
  obtain ⟨xs0, m0, _, hx0, _, hlen0, hfl0⟩ := DataW.trod_struct Try.underlying25 hf0
  obtain ⟨y0_0, y0_1, y0_2, y0_3, y0_4, y0_5, y0_6, rfl⟩ := list7 hlen0
  have g0_0 : DataW.trod enc Try.prog W 0 (fun _ => true) true m0 3 [c0_0] = some y0_0 := by have h := hfl0 0 _ rfl; simpa [Value.cells, cellsint] using h
  have g0_1 : DataW.trod enc Try.prog W 0 (fun _ => true) true m0 3 [c0_1] = some y0_1 := by have h := hfl0 1 _ rfl; simpa [Value.cells, cellsint] using h
  have g0_2 : DataW.trod enc Try.prog W 0 (fun _ => true) true m0 3 [c0_2] = some y0_2 := by have h := hfl0 2 _ rfl; simpa [Value.cells, cellsint] using h
  have g0_3 : DataW.trod enc Try.prog W 0 (fun _ => true) true m0 3 [c0_3] = some y0_3 := by have h := hfl0 3 _ rfl; simpa [Value.cells, cellsint] using h
  have g0_4 : DataW.trod enc Try.prog W 0 (fun _ => true) true m0 3 [c0_4] = some y0_4 := by have h := hfl0 4 _ rfl; simpa [Value.cells, cellsint] using h
  have g0_5 : DataW.trod enc Try.prog W 0 (fun _ => true) true m0 3 [c0_5] = some y0_5 := by have h := hfl0 5 _ rfl; simpa [Value.cells, cellsint] using h
  have g0_6 : DataW.trod enc Try.prog W 0 (fun _ => true) true m0 23 [c0_6_0, c0_6_1, c0_6_2, c0_6_3, c0_6_4, c0_6_5, c0_6_6, c0_6_7] = some y0_6 := by have h := hfl0 6 _ rfl; simpa [Value.cells, cellscopyhold_api_Call] using h
  simp only [Prod.mk.injEq] at hx0
  obtain ⟨rfl, hp0⟩ := hx0
  subst hp0
  obtain ⟨a0_0, ev0_0, ey0_0, w0_0⟩ := DataW.trod_int Try.underlying3 g0_0
  obtain rfl : c0_0 = _ := by simpa using ev0_0
  subst ey0_0
  obtain ⟨a0_1, ev0_1, ey0_1, w0_1⟩ := DataW.trod_int Try.underlying3 g0_1
  obtain rfl : c0_1 = _ := by simpa using ev0_1
  subst ey0_1
  obtain ⟨a0_2, ev0_2, ey0_2, w0_2⟩ := DataW.trod_int Try.underlying3 g0_2
  obtain rfl : c0_2 = _ := by simpa using ev0_2
  subst ey0_2
  obtain ⟨a0_3, ev0_3, ey0_3, w0_3⟩ := DataW.trod_int Try.underlying3 g0_3
  obtain rfl : c0_3 = _ := by simpa using ev0_3
  subst ey0_3
  obtain ⟨a0_4, ev0_4, ey0_4, w0_4⟩ := DataW.trod_int Try.underlying3 g0_4
  obtain rfl : c0_4 = _ := by simpa using ev0_4
  subst ey0_4
  obtain ⟨a0_5, ev0_5, ey0_5, w0_5⟩ := DataW.trod_int Try.underlying3 g0_5
  obtain rfl : c0_5 = _ := by simpa using ev0_5
  subst ey0_5
  obtain ⟨xs0_6, m0_6, _, hx0_6, _, hlen0_6, hfl0_6⟩ := DataW.trod_struct Try.underlying23 g0_6
  obtain ⟨y0_6_0, y0_6_1, y0_6_2, y0_6_3, y0_6_4, y0_6_5, y0_6_6, y0_6_7, rfl⟩ := list8 hlen0_6
  have g0_6_0 : DataW.trod enc Try.prog W 0 (fun _ => true) true m0_6 3 [c0_6_0] = some y0_6_0 := by have h := hfl0_6 0 _ rfl; simpa [Value.cells, cellsint] using h
  have g0_6_1 : DataW.trod enc Try.prog W 0 (fun _ => true) true m0_6 3 [c0_6_1] = some y0_6_1 := by have h := hfl0_6 1 _ rfl; simpa [Value.cells, cellsint] using h
  have g0_6_2 : DataW.trod enc Try.prog W 0 (fun _ => true) true m0_6 3 [c0_6_2] = some y0_6_2 := by have h := hfl0_6 2 _ rfl; simpa [Value.cells, cellsint] using h
  have g0_6_3 : DataW.trod enc Try.prog W 0 (fun _ => true) true m0_6 3 [c0_6_3] = some y0_6_3 := by have h := hfl0_6 3 _ rfl; simpa [Value.cells, cellsint] using h
  have g0_6_4 : DataW.trod enc Try.prog W 0 (fun _ => true) true m0_6 3 [c0_6_4] = some y0_6_4 := by have h := hfl0_6 4 _ rfl; simpa [Value.cells, cellsint] using h
  have g0_6_5 : DataW.trod enc Try.prog W 0 (fun _ => true) true m0_6 9 [c0_6_5] = some y0_6_5 := by have h := hfl0_6 5 _ rfl; simpa [Value.cells, cellsstring] using h
  have g0_6_6 : DataW.trod enc Try.prog W 0 (fun _ => true) true m0_6 9 [c0_6_6] = some y0_6_6 := by have h := hfl0_6 6 _ rfl; simpa [Value.cells, cellsstring] using h
  have g0_6_7 : DataW.trod enc Try.prog W 0 (fun _ => true) true m0_6 9 [c0_6_7] = some y0_6_7 := by have h := hfl0_6 7 _ rfl; simpa [Value.cells, cellsstring] using h
  subst hx0_6
  obtain ⟨a0_6_0, ev0_6_0, ey0_6_0, w0_6_0⟩ := DataW.trod_int Try.underlying3 g0_6_0
  obtain rfl : c0_6_0 = _ := by simpa using ev0_6_0
  subst ey0_6_0
  obtain ⟨a0_6_1, ev0_6_1, ey0_6_1, w0_6_1⟩ := DataW.trod_int Try.underlying3 g0_6_1
  obtain rfl : c0_6_1 = _ := by simpa using ev0_6_1
  subst ey0_6_1
  obtain ⟨a0_6_2, ev0_6_2, ey0_6_2, w0_6_2⟩ := DataW.trod_int Try.underlying3 g0_6_2
  obtain rfl : c0_6_2 = _ := by simpa using ev0_6_2
  subst ey0_6_2
  obtain ⟨a0_6_3, ev0_6_3, ey0_6_3, w0_6_3⟩ := DataW.trod_int Try.underlying3 g0_6_3
  obtain rfl : c0_6_3 = _ := by simpa using ev0_6_3
  subst ey0_6_3
  obtain ⟨a0_6_4, ev0_6_4, ey0_6_4, w0_6_4⟩ := DataW.trod_int Try.underlying3 g0_6_4
  obtain rfl : c0_6_4 = _ := by simpa using ev0_6_4
  subst ey0_6_4
  obtain ⟨s0_6_5, ev0_6_5, ey0_6_5, w0_6_5⟩ := DataW.trod_string Try.underlying9 g0_6_5
  obtain rfl : c0_6_5 = _ := by simpa using ev0_6_5
  subst ey0_6_5
  have z0_6_5 : s0_6_5.data.toList.length ≤ 140737488351232 := sized_deep hsz (by rw [Try.params5]; simp [DataW.weightsEach, DataW.weights, Try.underlying25, Try.underlying23, Try.underlying31, Try.underlying29])
  obtain ⟨a0_6_5, rfl⟩ : ∃ l : List UInt8, s0_6_5 = ⟨l.toArray⟩ := ⟨s0_6_5.data.toList, rfl⟩
  obtain ⟨s0_6_6, ev0_6_6, ey0_6_6, w0_6_6⟩ := DataW.trod_string Try.underlying9 g0_6_6
  obtain rfl : c0_6_6 = _ := by simpa using ev0_6_6
  subst ey0_6_6
  have z0_6_6 : s0_6_6.data.toList.length ≤ 140737488351232 := sized_deep hsz (by rw [Try.params5]; simp [DataW.weightsEach, DataW.weights, Try.underlying25, Try.underlying23, Try.underlying31, Try.underlying29])
  obtain ⟨a0_6_6, rfl⟩ : ∃ l : List UInt8, s0_6_6 = ⟨l.toArray⟩ := ⟨s0_6_6.data.toList, rfl⟩
  obtain ⟨s0_6_7, ev0_6_7, ey0_6_7, w0_6_7⟩ := DataW.trod_string Try.underlying9 g0_6_7
  obtain rfl : c0_6_7 = _ := by simpa using ev0_6_7
  subst ey0_6_7
  have z0_6_7 : s0_6_7.data.toList.length ≤ 140737488351232 := sized_deep hsz (by rw [Try.params5]; simp [DataW.weightsEach, DataW.weights, Try.underlying25, Try.underlying23, Try.underlying31, Try.underlying29])
  obtain ⟨a0_6_7, rfl⟩ : ∃ l : List UInt8, s0_6_7 = ⟨l.toArray⟩ := ⟨s0_6_7.data.toList, rfl⟩
  obtain ⟨cs1, rfl, hcz1⟩ := okWide_struct Try.underlying31 (hval 1 31 v1 rfl rfl)
  rw [cellscopyhold_api_Rsp] at hcz1
  obtain ⟨c1_0, c1_1, c1_2, c1_3, c1_4, c1_5_0, c1_5_1, c1_5_2, c1_5_3, c1_5_4, c1_5_5, rfl⟩ := array11_of hcz1
  obtain ⟨fuel1, hf1⟩ := h1
  obtain ⟨xs1, m1, _, hx1, _, hlen1, hfl1⟩ := DataW.trod_struct Try.underlying31 hf1
  obtain ⟨y1_0, y1_1, y1_2, y1_3, y1_4, y1_5, rfl⟩ := list6 hlen1
  have g1_0 : DataW.trod enc Try.prog W 0 (fun _ => true) true m1 3 [c1_0] = some y1_0 := by have h := hfl1 0 _ rfl; simpa [Value.cells, cellsint] using h
  have g1_1 : DataW.trod enc Try.prog W 0 (fun _ => true) true m1 3 [c1_1] = some y1_1 := by have h := hfl1 1 _ rfl; simpa [Value.cells, cellsint] using h
  have g1_2 : DataW.trod enc Try.prog W 0 (fun _ => true) true m1 3 [c1_2] = some y1_2 := by have h := hfl1 2 _ rfl; simpa [Value.cells, cellsint] using h
  have g1_3 : DataW.trod enc Try.prog W 0 (fun _ => true) true m1 3 [c1_3] = some y1_3 := by have h := hfl1 3 _ rfl; simpa [Value.cells, cellsint] using h
  have g1_4 : DataW.trod enc Try.prog W 0 (fun _ => true) true m1 3 [c1_4] = some y1_4 := by have h := hfl1 4 _ rfl; simpa [Value.cells, cellsint] using h
  have g1_5 : DataW.trod enc Try.prog W 0 (fun _ => true) true m1 29 [c1_5_0, c1_5_1, c1_5_2, c1_5_3, c1_5_4, c1_5_5] = some y1_5 := by have h := hfl1 5 _ rfl; simpa [Value.cells, cellscopyhold_api_Reply] using h
  simp only [Prod.mk.injEq] at hx1
  obtain ⟨rfl, hp1⟩ := hx1
  subst hp1
  obtain ⟨a1_0, ev1_0, ey1_0, w1_0⟩ := DataW.trod_int Try.underlying3 g1_0
  obtain rfl : c1_0 = _ := by simpa using ev1_0
  subst ey1_0
  obtain ⟨a1_1, ev1_1, ey1_1, w1_1⟩ := DataW.trod_int Try.underlying3 g1_1
  obtain rfl : c1_1 = _ := by simpa using ev1_1
  subst ey1_1
  obtain ⟨a1_2, ev1_2, ey1_2, w1_2⟩ := DataW.trod_int Try.underlying3 g1_2
  obtain rfl : c1_2 = _ := by simpa using ev1_2
  subst ey1_2
  obtain ⟨a1_3, ev1_3, ey1_3, w1_3⟩ := DataW.trod_int Try.underlying3 g1_3
  obtain rfl : c1_3 = _ := by simpa using ev1_3
  subst ey1_3
  obtain ⟨a1_4, ev1_4, ey1_4, w1_4⟩ := DataW.trod_int Try.underlying3 g1_4
  obtain rfl : c1_4 = _ := by simpa using ev1_4
  subst ey1_4
  obtain ⟨xs1_5, m1_5, _, hx1_5, _, hlen1_5, hfl1_5⟩ := DataW.trod_struct Try.underlying29 g1_5
  obtain ⟨y1_5_0, y1_5_1, y1_5_2, y1_5_3, y1_5_4, y1_5_5, rfl⟩ := list6 hlen1_5
  have g1_5_0 : DataW.trod enc Try.prog W 0 (fun _ => true) true m1_5 26 [c1_5_0] = some y1_5_0 := by have h := hfl1_5 0 _ rfl; simpa [Value.cells, cellscopyhold_api_Errno] using h
  have g1_5_1 : DataW.trod enc Try.prog W 0 (fun _ => true) true m1_5 3 [c1_5_1] = some y1_5_1 := by have h := hfl1_5 1 _ rfl; simpa [Value.cells, cellsint] using h
  have g1_5_2 : DataW.trod enc Try.prog W 0 (fun _ => true) true m1_5 3 [c1_5_2] = some y1_5_2 := by have h := hfl1_5 2 _ rfl; simpa [Value.cells, cellsint] using h
  have g1_5_3 : DataW.trod enc Try.prog W 0 (fun _ => true) true m1_5 3 [c1_5_3] = some y1_5_3 := by have h := hfl1_5 3 _ rfl; simpa [Value.cells, cellsint] using h
  have g1_5_4 : DataW.trod enc Try.prog W 0 (fun _ => true) true m1_5 9 [c1_5_4] = some y1_5_4 := by have h := hfl1_5 4 _ rfl; simpa [Value.cells, cellsstring] using h
  have g1_5_5 : DataW.trod enc Try.prog W 0 (fun _ => true) true m1_5 27 [c1_5_5] = some y1_5_5 := by have h := hfl1_5 5 _ rfl; simpa [Value.cells, cells__string] using h
  subst hx1_5
  obtain ⟨a1_5_0, ev1_5_0, ey1_5_0, w1_5_0⟩ := DataW.trod_int Try.underlying26 g1_5_0
  obtain rfl : c1_5_0 = _ := by simpa using ev1_5_0
  subst ey1_5_0
  obtain ⟨a1_5_1, ev1_5_1, ey1_5_1, w1_5_1⟩ := DataW.trod_int Try.underlying3 g1_5_1
  obtain rfl : c1_5_1 = _ := by simpa using ev1_5_1
  subst ey1_5_1
  obtain ⟨a1_5_2, ev1_5_2, ey1_5_2, w1_5_2⟩ := DataW.trod_int Try.underlying3 g1_5_2
  obtain rfl : c1_5_2 = _ := by simpa using ev1_5_2
  subst ey1_5_2
  obtain ⟨a1_5_3, ev1_5_3, ey1_5_3, w1_5_3⟩ := DataW.trod_int Try.underlying3 g1_5_3
  obtain rfl : c1_5_3 = _ := by simpa using ev1_5_3
  subst ey1_5_3
  obtain ⟨s1_5_4, ev1_5_4, ey1_5_4, w1_5_4⟩ := DataW.trod_string Try.underlying9 g1_5_4
  obtain rfl : c1_5_4 = _ := by simpa using ev1_5_4
  subst ey1_5_4
  have z1_5_4 : s1_5_4.data.toList.length ≤ 140737488351232 := sized_deep hsz (by rw [Try.params5]; simp [DataW.weightsEach, DataW.weights, Try.underlying25, Try.underlying23, Try.underlying31, Try.underlying29])
  obtain ⟨a1_5_4, rfl⟩ : ∃ l : List UInt8, s1_5_4 = ⟨l.toArray⟩ := ⟨s1_5_4.data.toList, rfl⟩
  have hw1_5_5 : ∀ n ∈ DataW.weights Try.prog 27 y1_5_5.1, n ≤ 140737488351232 := fun n hn => sized_deep hsz (by rw [Try.params5]; simp [DataW.weightsEach, DataW.weights, Try.underlying25, Try.underlying23, Try.underlying31, Try.underlying29, hn])
  obtain ⟨u1_5_5, a1_5_5, ev1_5_5, w1_5_5, e1_5_5⟩ := open_texts_at Try.underlying27 Try.underlying9 (by kernel_rfl) g1_5_5 (fun x hx => hlt x (by simp [hx]))
  obtain rfl : c1_5_5 = _ := by simpa using ev1_5_5
  have z1_5_5 := texts_sized Try.underlying27 (by kernel_rfl) e1_5_5 hw1_5_5
  obtain ⟨s2, rfl, rfl, rfl, w2⟩ := open_string Try.underlying9 (hval 2 9 v2 rfl rfl) h2
  have z2 : s2.data.toList.length ≤ 140737488351232 := sized_string hsz (j := 2) (t := 9) (by rw [Try.params5]; rfl) rfl
  obtain ⟨a2, rfl⟩ : ∃ l : List UInt8, s2 = ⟨l.toArray⟩ := ⟨s2.data.toList, rfl⟩
  refine (walk W a0_0 w0_0 a0_1 w0_1 a0_2 w0_2 a0_3 w0_3 a0_4 w0_4 a0_5 w0_5 a0_6_0 w0_6_0 a0_6_1 w0_6_1 a0_6_2 w0_6_2 a0_6_3 w0_6_3 a0_6_4 w0_6_4 a0_6_5 z0_6_5 a0_6_6 z0_6_6 a0_6_7 z0_6_7 a1_0 w1_0 a1_1 w1_1 a1_2 w1_2 a1_3 w1_3 a1_4 w1_4 a1_5_0 w1_5_0 a1_5_1 w1_5_1 a1_5_2 w1_5_2 a1_5_3 w1_5_3 a1_5_4 z1_5_4 c1_5_5 a1_5_5 w1_5_5 z1_5_5 a2 z2).mono fun e W' ⟨he, hg⟩ => ?_
  subst he
  exact ⟨_, rfl, Copyhold.law_post laidOut (by kernel_rfl) (by kernel_rfl) Try.underlying4 rfl rfl rfl rfl hW' hg⟩

theorem over : Rows.wireBackRow.holds Try.pinned (OpenSpec.ofChange Rows.wireBackSpec) :=
  OpenClaim.holds_of_wide 5 Try.f5 rfl rfl rfl rfl rfl rfl rfl ⟨rfl, rfl, rfl, rfl, rfl⟩ rfl rfl rfl rfl rfl (by kernel_rfl) Try.func5 (by kernel_rfl)
    (of_decide_eq_true (by kernel_rfl)) (by unfold Func.isWrapper; first | (rw [if_pos (by decide +kernel)]; kernel_rfl) | (rw [if_neg (by decide +kernel)]; exact ⟨rfl, rfl⟩))
    (fun os started H enc _ => lifted os started H enc)

theorem proved : Rows.WireBackSaid :=
  over
end Go.Proofs.Ytpojhcpkmpbflaa.wireBack
