/- Proved: copyholdlaw15.WireApart returns true for every two messages and two answers, and leaves them as they were: two messages have the same bytes just if they are the same; so have two answers. No condition beyond the form's own reach. -/
import Derived.Test.YtpojhcpkmpbflaaWireLawK
import Derived.Test.YtpojhcpkmpbflaaWireLay2
import Derived.Test.YtpojhcpkmpbflaaWireP6
import Derived.Test.YtpojhcpkmpbflaaWireEq
import Derived.Test.YtpojhcpkmpbflaaExecBin
import Derived.Test.YtpojhcpkmpbflaaRef15S
import Derived.Test.YtpojhcpkmpbflaaLaw50
namespace Go.Proofs.Ytpojhcpkmpbflaa.wireApart
open Go.ChangeShapes Go.WideShapes Go.ChangeAt Go.RowKit Copyhold
open Go.ChangeMaps (open_string shut_string)
set_option linter.unusedVariables false
set_option linter.unusedSimpArgs false

def sumK (ls : List (List UInt8)) (k : Nat) : Nat := ((ls.take k).map List.length).sum
theorem sumK_step (ls : List (List UInt8)) (k : Nat) (h : k < ls.length) : sumK ls (k + 1) = sumK ls k + ls[k].length := by
  unfold sumK
  rw [List.take_succ_eq_append_getElem h, List.map_append, List.sum_append]
  simp
theorem sumK_le (ls : List (List UInt8)) (k : Nat) (n : Nat) (h : ∀ l ∈ ls, l.length ≤ n) : sumK ls k ≤ k * n := by
  induction k with
  | zero => simp [sumK]
  | succ k ih =>
    by_cases hk : k < ls.length
    · have := h ls[k] (List.getElem_mem hk)
      rw [sumK_step ls k hk, Nat.add_mul, Nat.one_mul]
      omega
    · have : sumK ls (k + 1) = sumK ls k := by unfold sumK; rw [List.take_of_length_le (by omega), List.take_of_length_le (by omega)]
      rw [this, Nat.add_mul, Nat.one_mul]
      omega
theorem sumK_all (ls : List (List UInt8)) : sumK ls ls.length = (ls.map List.length).sum := by unfold sumK; rw [List.take_length]
theorem mem_sum {ls : List (List UInt8)} {l : List UInt8} (h : l ∈ ls) : l.length ≤ (ls.map List.length).sum := by
  induction ls with
  | nil => cases h
  | cons a r ih =>
    simp only [List.map_cons, List.sum_cons]
    rcases List.mem_cons.1 h with rfl | h
    · omega
    · have := ih h; omega

set_option maxRecDepth 100000 in
set_option maxHeartbeats 32000000 in
theorem walk (w : World) (m1 : Int) (wm1 : (Lit.int .i64 m1).wf = true) (m2 : Int) (wm2 : (Lit.int .i64 m2).wf = true) (m3 : Int) (wm3 : (Lit.int .i64 m3).wf = true) (m4 : Int) (wm4 : (Lit.int .i64 m4).wf = true) (m5 : Int) (wm5 : (Lit.int .i64 m5).wf = true) (m6 : Int) (wm6 : (Lit.int .i64 m6).wf = true) (k1 : Int) (wk1 : (Lit.int .i64 k1).wf = true) (k2 : Int) (wk2 : (Lit.int .i64 k2).wf = true) (k3 : Int) (wk3 : (Lit.int .i64 k3).wf = true) (k4 : Int) (wk4 : (Lit.int .i64 k4).wf = true) (k5 : Int) (wk5 : (Lit.int .i64 k5).wf = true) (t1 : List UInt8) (zt1 : t1.length ≤ 140737488351232) (t2 : List UInt8) (zt2 : t2.length ≤ 140737488351232) (t3 : List UInt8) (zt3 : t3.length ≤ 140737488351232) (n1 : Int) (wn1 : (Lit.int .i64 n1).wf = true) (n2 : Int) (wn2 : (Lit.int .i64 n2).wf = true) (n3 : Int) (wn3 : (Lit.int .i64 n3).wf = true) (n4 : Int) (wn4 : (Lit.int .i64 n4).wf = true) (n5 : Int) (wn5 : (Lit.int .i64 n5).wf = true) (n6 : Int) (wn6 : (Lit.int .i64 n6).wf = true) (l1 : Int) (wl1 : (Lit.int .i64 l1).wf = true) (l2 : Int) (wl2 : (Lit.int .i64 l2).wf = true) (l3 : Int) (wl3 : (Lit.int .i64 l3).wf = true) (l4 : Int) (wl4 : (Lit.int .i64 l4).wf = true) (l5 : Int) (wl5 : (Lit.int .i64 l5).wf = true) (u1 : List UInt8) (zu1 : u1.length ≤ 140737488351232) (u2 : List UInt8) (zu2 : u2.length ≤ 140737488351232) (u3 : List UInt8) (zu3 : u3.length ≤ 140737488351232) (r1 : Int) (wr1 : (Lit.int .i64 r1).wf = true) (r2 : Int) (wr2 : (Lit.int .i64 r2).wf = true) (r3 : Int) (wr3 : (Lit.int .i64 r3).wf = true) (r4 : Int) (wr4 : (Lit.int .i64 r4).wf = true) (r5 : Int) (wr5 : (Lit.int .i64 r5).wf = true) (r6 : Int) (wr6 : (Lit.int .i64 r6).wf = true) (r7 : Int) (wr7 : (Lit.int .i64 r7).wf = true) (r8 : Int) (wr8 : (Lit.int .i64 r8).wf = true) (r9 : Int) (wr9 : (Lit.int .i64 r9).wf = true) (tx : List UInt8) (ztx : tx.length ≤ 140737488351232) (nv : Value) (ls : List (List UInt8)) (hrow : Row w nv (ls.map strV)) (hll : ls.length ≤ 8796093022207 ∧ ∀ l ∈ ls, l.length ≤ 140737488351232) (q1 : Int) (wq1 : (Lit.int .i64 q1).wf = true) (q2 : Int) (wq2 : (Lit.int .i64 q2).wf = true) (q3 : Int) (wq3 : (Lit.int .i64 q3).wf = true) (q4 : Int) (wq4 : (Lit.int .i64 q4).wf = true) (q5 : Int) (wq5 : (Lit.int .i64 q5).wf = true) (q6 : Int) (wq6 : (Lit.int .i64 q6).wf = true) (q7 : Int) (wq7 : (Lit.int .i64 q7).wf = true) (q8 : Int) (wq8 : (Lit.int .i64 q8).wf = true) (q9 : Int) (wq9 : (Lit.int .i64 q9).wf = true) (ux : List UInt8) (zux : ux.length ≤ 140737488351232) (nw : Value) (ks : List (List UInt8)) (krow : Row w nw (ks.map strV)) (hkl : ks.length ≤ 8796093022207 ∧ ∀ l ∈ ks, l.length ≤ 140737488351232) :
    Calls Try.prog 8 #[.agg (List.toArray ((.int .i64 m1) :: (.int .i64 m2) :: (.int .i64 m3) :: (.int .i64 m4) :: (.int .i64 m5) :: (.int .i64 m6) :: (.int .i64 k1) :: (.int .i64 k2) :: (.int .i64 k3) :: (.int .i64 k4) :: (.int .i64 k5) :: (.string ⟨t1.toArray⟩) :: (.string ⟨t2.toArray⟩) :: (.string ⟨t3.toArray⟩) :: (.int .i64 n1) :: (.int .i64 n2) :: (.int .i64 n3) :: (.int .i64 n4) :: (.int .i64 n5) :: (.int .i64 n6) :: (.int .i64 l1) :: (.int .i64 l2) :: (.int .i64 l3) :: (.int .i64 l4) :: (.int .i64 l5) :: (.string ⟨u1.toArray⟩) :: (.string ⟨u2.toArray⟩) :: (.string ⟨u3.toArray⟩) :: (.int .i64 r1) :: (.int .i64 r2) :: (.int .i64 r3) :: (.int .i64 r4) :: (.int .i64 r5) :: (.int .i64 r6) :: (.int .i64 r7) :: (.int .i64 r8) :: (.int .i64 r9) :: (.string ⟨tx.toArray⟩) :: (nv) :: (.int .i64 q1) :: (.int .i64 q2) :: (.int .i64 q3) :: (.int .i64 q4) :: (.int .i64 q5) :: (.int .i64 q6) :: (.int .i64 q7) :: (.int .i64 q8) :: (.int .i64 q9) :: (.string ⟨ux.toArray⟩) :: (nw) :: []))] w fun e w' => e = .returned (.bool true) ∧ Below w.heap.size w w' := by
  obtain ⟨A, cp, rfl⟩ := hrow.shape
  obtain ⟨B, cq, rfl⟩ := krow.shape
  rw [List.length_map] at hrow krow ⊢
  rw [List.length_map]
  obtain ⟨hll, hlz⟩ := hll
  obtain ⟨hkl, hkz⟩ := hkl
  have oa := fun h => short_ok (c := ⟨k1, k2, k3, k4, k5, t1, t2, t3⟩) h ⟨i64_of wk1, i64_of wk2, i64_of wk3, i64_of wk4, i64_of wk5⟩
  have ob := fun h => short_ok (c := ⟨l1, l2, l3, l4, l5, u1, u2, u3⟩) h ⟨i64_of wl1, i64_of wl2, i64_of wl3, i64_of wl4, i64_of wl5⟩
  have HIM := Lib.hid (show (I64 m1 ∧ I64 m2 ∧ I64 m3 ∧ I64 m4 ∧ I64 m5 ∧ I64 m6) ∧ (I64 n1 ∧ I64 n2 ∧ I64 n3 ∧ I64 n4 ∧ I64 n5 ∧ I64 n6) from ⟨⟨i64_of wm1, i64_of wm2, i64_of wm3, i64_of wm4, i64_of wm5, i64_of wm6⟩, ⟨i64_of wn1, i64_of wn2, i64_of wn3, i64_of wn4, i64_of wn5, i64_of wn6⟩⟩)
  have HIR := Lib.hid (show (I64 r1 ∧ I64 r2 ∧ I64 r3 ∧ I64 r4 ∧ I64 r5 ∧ I64 r6 ∧ I64 r7 ∧ I64 r8 ∧ I64 r9) ∧ (I64 q1 ∧ I64 q2 ∧ I64 q3 ∧ I64 q4 ∧ I64 q5 ∧ I64 q6 ∧ I64 q7 ∧ I64 q8 ∧ I64 q9) from ⟨⟨i64_of wr1, i64_of wr2, i64_of wr3, i64_of wr4, i64_of wr5, i64_of wr6, i64_of wr7, i64_of wr8, i64_of wr9⟩, ⟨i64_of wq1, i64_of wq2, i64_of wq3, i64_of wq4, i64_of wq5, i64_of wq6, i64_of wq7, i64_of wq8, i64_of wq9⟩⟩)
  have HSA := Lib.hid (fun W => law_short ⟨k1, k2, k3, k4, k5, t1, t2, t3⟩ W (by simp only; omega) (by simp only; omega) (by simp only; omega))
  have HSB := Lib.hid (fun W => law_short ⟨l1, l2, l3, l4, l5, u1, u2, u3⟩ W (by simp only; omega) (by simp only; omega) (by simp only; omega))
  unfold callV at HSA HSB
  simp only at HSA HSB
  clear wm1 wn1 wm2 wn2 wm3 wn3 wm4 wn4 wm5 wn5 wm6 wn6 wk1 wl1 wk2 wl2 wk3 wl3 wk4 wl4 wk5 wl5 wr1 wq1 wr2 wq2 wr3 wq3 wr4 wq4 wr5 wq5 wr6 wq6 wr7 wq7 wr8 wq8 wr9 wq9
  cases hsa : shortC ⟨k1, k2, k3, k4, k5, t1, t2, t3⟩ with
  | false =>
    have HA := Lib.hid hsa
    clear oa ob hsa
    obtain ⟨wu1, hu1⟩ : ∃ u, u = w.alloc (.cells (List.toArray ((.int .i64 m1) :: (.int .i64 m2) :: (.int .i64 m3) :: (.int .i64 m4) :: (.int .i64 m5) :: (.int .i64 m6) :: (.int .i64 k1) :: (.int .i64 k2) :: (.int .i64 k3) :: (.int .i64 k4) :: (.int .i64 k5) :: (.string ⟨t1.toArray⟩) :: (.string ⟨t2.toArray⟩) :: (.string ⟨t3.toArray⟩) :: (.int .i64 n1) :: (.int .i64 n2) :: (.int .i64 n3) :: (.int .i64 n4) :: (.int .i64 n5) :: (.int .i64 n6) :: (.int .i64 l1) :: (.int .i64 l2) :: (.int .i64 l3) :: (.int .i64 l4) :: (.int .i64 l5) :: (.string ⟨u1.toArray⟩) :: (.string ⟨u2.toArray⟩) :: (.string ⟨u3.toArray⟩) :: (.int .i64 r1) :: (.int .i64 r2) :: (.int .i64 r3) :: (.int .i64 r4) :: (.int .i64 r5) :: (.int .i64 r6) :: (.int .i64 r7) :: (.int .i64 r8) :: (.int .i64 r9) :: (.string ⟨tx.toArray⟩) :: (.slice A ls.length cp) :: (.int .i64 q1) :: (.int .i64 q2) :: (.int .i64 q3) :: (.int .i64 q4) :: (.int .i64 q5) :: (.int .i64 q6) :: (.int .i64 q7) :: (.int .i64 q8) :: (.int .i64 q9) :: (.string ⟨ux.toArray⟩) :: (.slice B ks.length cq) :: [])) 59) := ⟨_, rfl⟩
    have su1 : wu1.heap.size = w.heap.size + 1 := by rw [hu1]; simp
    have tu1 : TBox wu1 (w.heap.size) 59 (List.toArray ((.int .i64 m1) :: (.int .i64 m2) :: (.int .i64 m3) :: (.int .i64 m4) :: (.int .i64 m5) :: (.int .i64 m6) :: (.int .i64 k1) :: (.int .i64 k2) :: (.int .i64 k3) :: (.int .i64 k4) :: (.int .i64 k5) :: (.string ⟨t1.toArray⟩) :: (.string ⟨t2.toArray⟩) :: (.string ⟨t3.toArray⟩) :: (.int .i64 n1) :: (.int .i64 n2) :: (.int .i64 n3) :: (.int .i64 n4) :: (.int .i64 n5) :: (.int .i64 n6) :: (.int .i64 l1) :: (.int .i64 l2) :: (.int .i64 l3) :: (.int .i64 l4) :: (.int .i64 l5) :: (.string ⟨u1.toArray⟩) :: (.string ⟨u2.toArray⟩) :: (.string ⟨u3.toArray⟩) :: (.int .i64 r1) :: (.int .i64 r2) :: (.int .i64 r3) :: (.int .i64 r4) :: (.int .i64 r5) :: (.int .i64 r6) :: (.int .i64 r7) :: (.int .i64 r8) :: (.int .i64 r9) :: (.string ⟨tx.toArray⟩) :: (.slice A ls.length cp) :: (.int .i64 q1) :: (.int .i64 q2) :: (.int .i64 q3) :: (.int .i64 q4) :: (.int .i64 q5) :: (.int .i64 q6) :: (.int .i64 q7) :: (.int .i64 q8) :: (.int .i64 q9) :: (.string ⟨ux.toArray⟩) :: (.slice B ks.length cq) :: [])) := by rw [hu1]; exact TBox.new _ _ _
    have bu1 : Below w.heap.size w wu1 := by rw [hu1]; exact (Below.refl _ _).alloc (Nat.le_refl _) _
    have BU1 := bu1
    obtain ⟨wu2, hu2⟩ : ∃ u, u = wu1.alloc (.cells #[.int .i64 m1, .int .i64 m2, .int .i64 m3, .int .i64 m4, .int .i64 m5, .int .i64 m6, .int .i64 k1, .int .i64 k2, .int .i64 k3, .int .i64 k4, .int .i64 k5, .string ⟨t1.toArray⟩, .string ⟨t2.toArray⟩, .string ⟨t3.toArray⟩] 25) := ⟨_, rfl⟩
    have su2 : wu2.heap.size = w.heap.size + 2 := by rw [hu2]; simp [su1]
    have tu2 : TBox wu2 (w.heap.size + 1) 25 #[.int .i64 m1, .int .i64 m2, .int .i64 m3, .int .i64 m4, .int .i64 m5, .int .i64 m6, .int .i64 k1, .int .i64 k2, .int .i64 k3, .int .i64 k4, .int .i64 k5, .string ⟨t1.toArray⟩, .string ⟨t2.toArray⟩, .string ⟨t3.toArray⟩] := by rw [hu2, ← su1]; exact TBox.new _ _ _
    have bu2 : Below wu1.heap.size wu1 wu2 := by rw [hu2]; exact (Below.refl _ _).alloc (Nat.le_refl _) _
    have BU2 := below_trans BU1 bu2 BU1.size
    obtain ⟨wu3, hu3⟩ : ∃ u, u = wu2.alloc (.cells #[.int .i64 n1, .int .i64 n2, .int .i64 n3, .int .i64 n4, .int .i64 n5, .int .i64 n6, .int .i64 l1, .int .i64 l2, .int .i64 l3, .int .i64 l4, .int .i64 l5, .string ⟨u1.toArray⟩, .string ⟨u2.toArray⟩, .string ⟨u3.toArray⟩] 25) := ⟨_, rfl⟩
    have su3 : wu3.heap.size = w.heap.size + 3 := by rw [hu3]; simp [su2]
    have tu3 : TBox wu3 (w.heap.size + 2) 25 #[.int .i64 n1, .int .i64 n2, .int .i64 n3, .int .i64 n4, .int .i64 n5, .int .i64 n6, .int .i64 l1, .int .i64 l2, .int .i64 l3, .int .i64 l4, .int .i64 l5, .string ⟨u1.toArray⟩, .string ⟨u2.toArray⟩, .string ⟨u3.toArray⟩] := by rw [hu3, ← su2]; exact TBox.new _ _ _
    have bu3 : Below wu2.heap.size wu2 wu3 := by rw [hu3]; exact (Below.refl _ _).alloc (Nat.le_refl _) _
    have BU3 := below_trans BU2 bu3 BU2.size
    obtain ⟨wu4, hu4⟩ : ∃ u, u = wu3.alloc (.cells #[.int .i64 r1, .int .i64 r2, .int .i64 r3, .int .i64 r4, .int .i64 r5, .int .i64 r6, .int .i64 r7, .int .i64 r8, .int .i64 r9, .string ⟨tx.toArray⟩, .slice A ls.length cp] 31) := ⟨_, rfl⟩
    have su4 : wu4.heap.size = w.heap.size + 4 := by rw [hu4]; simp [su3]
    have tu4 : TBox wu4 (w.heap.size + 3) 31 #[.int .i64 r1, .int .i64 r2, .int .i64 r3, .int .i64 r4, .int .i64 r5, .int .i64 r6, .int .i64 r7, .int .i64 r8, .int .i64 r9, .string ⟨tx.toArray⟩, .slice A ls.length cp] := by rw [hu4, ← su3]; exact TBox.new _ _ _
    have bu4 : Below wu3.heap.size wu3 wu4 := by rw [hu4]; exact (Below.refl _ _).alloc (Nat.le_refl _) _
    have BU4 := below_trans BU3 bu4 BU3.size
    obtain ⟨wu5, hu5⟩ : ∃ u, u = wu4.alloc (.cells #[.int .i64 q1, .int .i64 q2, .int .i64 q3, .int .i64 q4, .int .i64 q5, .int .i64 q6, .int .i64 q7, .int .i64 q8, .int .i64 q9, .string ⟨ux.toArray⟩, .slice B ks.length cq] 31) := ⟨_, rfl⟩
    have su5 : wu5.heap.size = w.heap.size + 5 := by rw [hu5]; simp [su4]
    have tu5 : TBox wu5 (w.heap.size + 4) 31 #[.int .i64 q1, .int .i64 q2, .int .i64 q3, .int .i64 q4, .int .i64 q5, .int .i64 q6, .int .i64 q7, .int .i64 q8, .int .i64 q9, .string ⟨ux.toArray⟩, .slice B ks.length cq] := by rw [hu5, ← su4]; exact TBox.new _ _ _
    have bu5 : Below wu4.heap.size wu4 wu5 := by rw [hu5]; exact (Below.refl _ _).alloc (Nat.le_refl _) _
    have BU5 := below_trans BU4 bu5 BU4.size
    have Hs0 := Lib.hid ((((tu1.below bu2).below bu3).below bu4).below bu5)
    have Ha0 := Lib.hid (((tu2.below bu3).below bu4).below bu5)
    have Hb0 := Lib.hid ((tu3.below bu4).below bu5)
    have Hr0 := Lib.hid (tu4.below bu5)
    have Hq0 := Lib.hid tu5
    have BW_0 := Lib.hid BU5
    have HW : Hid (wu5 = (((((w.alloc (.cells (List.toArray ((.int .i64 m1) :: (.int .i64 m2) :: (.int .i64 m3) :: (.int .i64 m4) :: (.int .i64 m5) :: (.int .i64 m6) :: (.int .i64 k1) :: (.int .i64 k2) :: (.int .i64 k3) :: (.int .i64 k4) :: (.int .i64 k5) :: (.string ⟨t1.toArray⟩) :: (.string ⟨t2.toArray⟩) :: (.string ⟨t3.toArray⟩) :: (.int .i64 n1) :: (.int .i64 n2) :: (.int .i64 n3) :: (.int .i64 n4) :: (.int .i64 n5) :: (.int .i64 n6) :: (.int .i64 l1) :: (.int .i64 l2) :: (.int .i64 l3) :: (.int .i64 l4) :: (.int .i64 l5) :: (.string ⟨u1.toArray⟩) :: (.string ⟨u2.toArray⟩) :: (.string ⟨u3.toArray⟩) :: (.int .i64 r1) :: (.int .i64 r2) :: (.int .i64 r3) :: (.int .i64 r4) :: (.int .i64 r5) :: (.int .i64 r6) :: (.int .i64 r7) :: (.int .i64 r8) :: (.int .i64 r9) :: (.string ⟨tx.toArray⟩) :: (.slice A ls.length cp) :: (.int .i64 q1) :: (.int .i64 q2) :: (.int .i64 q3) :: (.int .i64 q4) :: (.int .i64 q5) :: (.int .i64 q6) :: (.int .i64 q7) :: (.int .i64 q8) :: (.int .i64 q9) :: (.string ⟨ux.toArray⟩) :: (.slice B ks.length cq) :: [])) 59)).alloc (.cells #[.int .i64 m1, .int .i64 m2, .int .i64 m3, .int .i64 m4, .int .i64 m5, .int .i64 m6, .int .i64 k1, .int .i64 k2, .int .i64 k3, .int .i64 k4, .int .i64 k5, .string ⟨t1.toArray⟩, .string ⟨t2.toArray⟩, .string ⟨t3.toArray⟩] 25)).alloc (.cells #[.int .i64 n1, .int .i64 n2, .int .i64 n3, .int .i64 n4, .int .i64 n5, .int .i64 n6, .int .i64 l1, .int .i64 l2, .int .i64 l3, .int .i64 l4, .int .i64 l5, .string ⟨u1.toArray⟩, .string ⟨u2.toArray⟩, .string ⟨u3.toArray⟩] 25)).alloc (.cells #[.int .i64 r1, .int .i64 r2, .int .i64 r3, .int .i64 r4, .int .i64 r5, .int .i64 r6, .int .i64 r7, .int .i64 r8, .int .i64 r9, .string ⟨tx.toArray⟩, .slice A ls.length cp] 31)).alloc (.cells #[.int .i64 q1, .int .i64 q2, .int .i64 q3, .int .i64 q4, .int .i64 q5, .int .i64 q6, .int .i64 q7, .int .i64 q8, .int .i64 q9, .string ⟨ux.toArray⟩, .slice B ks.length cq] 31))) := Lib.hid (by rw [hu5, hu4, hu3, hu2, hu1])
    have HSZ := Lib.hid su5
    obtain ⟨W0, hW0⟩ : ∃ u, u = wu5 := ⟨_, rfl⟩
    rw [← hW0] at Hs0 Ha0 Hb0 Hr0 Hq0 BW_0 HW HSZ
    clear hW0 hu1 su1 tu1 bu1 BU1 hu2 su2 tu2 bu2 BU2 hu3 su3 tu3 bu3 BU3 hu4 su4 tu4 bu4 BU4 hu5 su5 tu5 bu5 BU5
    have Rr0 := Lib.hid (hrow.below BW_0.out)
    have Rq0 := Lib.hid (krow.below BW_0.out)
    clear hrow krow
    go_enter Try.func8, Try.ntmps8
    go_wp2_with fail
    rw [← HW.out]
    refine (law_shown _).mono ?_
    rintro e w1 ⟨rfl, hb⟩
    have Ha_1 := Lib.hid (Ha0.out.below hb)
    have Hb_1 := Lib.hid (Hb0.out.below hb)
    have Hr_1 := Lib.hid (Hr0.out.below hb)
    have Hq_1 := Lib.hid (Hq0.out.below hb)
    have Rr_1 := Lib.hid (Rr0.out.below hb)
    have Rq_1 := Lib.hid (Rq0.out.below hb)
    have BW_1 := Lib.hid (below_trans BW_0.out hb BW_0.out.size)
    clear hb 
    have ca_0 : w1.cell? ⟨(w.heap.size + 1), 0, none⟩ = some (.int .i64 m1) := Ha_1.out.cell 0
    have ca_1 : w1.cell? ⟨(w.heap.size + 1), 1, none⟩ = some (.int .i64 m2) := Ha_1.out.cell 1
    have ca_2 : w1.cell? ⟨(w.heap.size + 1), 2, none⟩ = some (.int .i64 m3) := Ha_1.out.cell 2
    have ca_3 : w1.cell? ⟨(w.heap.size + 1), 3, none⟩ = some (.int .i64 m4) := Ha_1.out.cell 3
    have ca_4 : w1.cell? ⟨(w.heap.size + 1), 4, none⟩ = some (.int .i64 m5) := Ha_1.out.cell 4
    have ca_5 : w1.cell? ⟨(w.heap.size + 1), 5, none⟩ = some (.int .i64 m6) := Ha_1.out.cell 5
    have ca_6 : w1.cell? ⟨(w.heap.size + 1), 6, none⟩ = some (.int .i64 k1) := Ha_1.out.cell 6
    have ca_7 : w1.cell? ⟨(w.heap.size + 1), 7, none⟩ = some (.int .i64 k2) := Ha_1.out.cell 7
    have ca_8 : w1.cell? ⟨(w.heap.size + 1), 8, none⟩ = some (.int .i64 k3) := Ha_1.out.cell 8
    have ca_9 : w1.cell? ⟨(w.heap.size + 1), 9, none⟩ = some (.int .i64 k4) := Ha_1.out.cell 9
    have ca_10 : w1.cell? ⟨(w.heap.size + 1), 10, none⟩ = some (.int .i64 k5) := Ha_1.out.cell 10
    have ca_11 : w1.cell? ⟨(w.heap.size + 1), 11, none⟩ = some (.string ⟨t1.toArray⟩) := Ha_1.out.cell 11
    have ca_12 : w1.cell? ⟨(w.heap.size + 1), 12, none⟩ = some (.string ⟨t2.toArray⟩) := Ha_1.out.cell 12
    have ca_13 : w1.cell? ⟨(w.heap.size + 1), 13, none⟩ = some (.string ⟨t3.toArray⟩) := Ha_1.out.cell 13
    go_wp2_with fail
    refine (HSA.out _).mono ?_
    rintro e w2 ⟨rfl, hb⟩
    have Ha_2 := Lib.hid (Ha_1.out.below hb)
    have Hb_2 := Lib.hid (Hb_1.out.below hb)
    have Hr_2 := Lib.hid (Hr_1.out.below hb)
    have Hq_2 := Lib.hid (Hq_1.out.below hb)
    have Rr_2 := Lib.hid (Rr_1.out.below hb)
    have Rq_2 := Lib.hid (Rq_1.out.below hb)
    have BW_2 := Lib.hid (below_trans BW_1.out hb BW_1.out.size)
    rw [HA.out]
    clear hb 
    clear ca_0 ca_1 ca_2 ca_3 ca_4 ca_5 ca_6 ca_7 ca_8 ca_9 ca_10 ca_11 ca_12 ca_13
    go_wp2_with fail
    go_ret
    exact ⟨rfl, BW_2.out⟩
  | true =>
    have HA := Lib.hid hsa
    cases hsb : shortC ⟨l1, l2, l3, l4, l5, u1, u2, u3⟩ with
    | false =>
      have HB := Lib.hid hsb
      clear oa ob hsa hsb
      obtain ⟨wu1, hu1⟩ : ∃ u, u = w.alloc (.cells (List.toArray ((.int .i64 m1) :: (.int .i64 m2) :: (.int .i64 m3) :: (.int .i64 m4) :: (.int .i64 m5) :: (.int .i64 m6) :: (.int .i64 k1) :: (.int .i64 k2) :: (.int .i64 k3) :: (.int .i64 k4) :: (.int .i64 k5) :: (.string ⟨t1.toArray⟩) :: (.string ⟨t2.toArray⟩) :: (.string ⟨t3.toArray⟩) :: (.int .i64 n1) :: (.int .i64 n2) :: (.int .i64 n3) :: (.int .i64 n4) :: (.int .i64 n5) :: (.int .i64 n6) :: (.int .i64 l1) :: (.int .i64 l2) :: (.int .i64 l3) :: (.int .i64 l4) :: (.int .i64 l5) :: (.string ⟨u1.toArray⟩) :: (.string ⟨u2.toArray⟩) :: (.string ⟨u3.toArray⟩) :: (.int .i64 r1) :: (.int .i64 r2) :: (.int .i64 r3) :: (.int .i64 r4) :: (.int .i64 r5) :: (.int .i64 r6) :: (.int .i64 r7) :: (.int .i64 r8) :: (.int .i64 r9) :: (.string ⟨tx.toArray⟩) :: (.slice A ls.length cp) :: (.int .i64 q1) :: (.int .i64 q2) :: (.int .i64 q3) :: (.int .i64 q4) :: (.int .i64 q5) :: (.int .i64 q6) :: (.int .i64 q7) :: (.int .i64 q8) :: (.int .i64 q9) :: (.string ⟨ux.toArray⟩) :: (.slice B ks.length cq) :: [])) 59) := ⟨_, rfl⟩
      have su1 : wu1.heap.size = w.heap.size + 1 := by rw [hu1]; simp
      have tu1 : TBox wu1 (w.heap.size) 59 (List.toArray ((.int .i64 m1) :: (.int .i64 m2) :: (.int .i64 m3) :: (.int .i64 m4) :: (.int .i64 m5) :: (.int .i64 m6) :: (.int .i64 k1) :: (.int .i64 k2) :: (.int .i64 k3) :: (.int .i64 k4) :: (.int .i64 k5) :: (.string ⟨t1.toArray⟩) :: (.string ⟨t2.toArray⟩) :: (.string ⟨t3.toArray⟩) :: (.int .i64 n1) :: (.int .i64 n2) :: (.int .i64 n3) :: (.int .i64 n4) :: (.int .i64 n5) :: (.int .i64 n6) :: (.int .i64 l1) :: (.int .i64 l2) :: (.int .i64 l3) :: (.int .i64 l4) :: (.int .i64 l5) :: (.string ⟨u1.toArray⟩) :: (.string ⟨u2.toArray⟩) :: (.string ⟨u3.toArray⟩) :: (.int .i64 r1) :: (.int .i64 r2) :: (.int .i64 r3) :: (.int .i64 r4) :: (.int .i64 r5) :: (.int .i64 r6) :: (.int .i64 r7) :: (.int .i64 r8) :: (.int .i64 r9) :: (.string ⟨tx.toArray⟩) :: (.slice A ls.length cp) :: (.int .i64 q1) :: (.int .i64 q2) :: (.int .i64 q3) :: (.int .i64 q4) :: (.int .i64 q5) :: (.int .i64 q6) :: (.int .i64 q7) :: (.int .i64 q8) :: (.int .i64 q9) :: (.string ⟨ux.toArray⟩) :: (.slice B ks.length cq) :: [])) := by rw [hu1]; exact TBox.new _ _ _
      have bu1 : Below w.heap.size w wu1 := by rw [hu1]; exact (Below.refl _ _).alloc (Nat.le_refl _) _
      have BU1 := bu1
      obtain ⟨wu2, hu2⟩ : ∃ u, u = wu1.alloc (.cells #[.int .i64 m1, .int .i64 m2, .int .i64 m3, .int .i64 m4, .int .i64 m5, .int .i64 m6, .int .i64 k1, .int .i64 k2, .int .i64 k3, .int .i64 k4, .int .i64 k5, .string ⟨t1.toArray⟩, .string ⟨t2.toArray⟩, .string ⟨t3.toArray⟩] 25) := ⟨_, rfl⟩
      have su2 : wu2.heap.size = w.heap.size + 2 := by rw [hu2]; simp [su1]
      have tu2 : TBox wu2 (w.heap.size + 1) 25 #[.int .i64 m1, .int .i64 m2, .int .i64 m3, .int .i64 m4, .int .i64 m5, .int .i64 m6, .int .i64 k1, .int .i64 k2, .int .i64 k3, .int .i64 k4, .int .i64 k5, .string ⟨t1.toArray⟩, .string ⟨t2.toArray⟩, .string ⟨t3.toArray⟩] := by rw [hu2, ← su1]; exact TBox.new _ _ _
      have bu2 : Below wu1.heap.size wu1 wu2 := by rw [hu2]; exact (Below.refl _ _).alloc (Nat.le_refl _) _
      have BU2 := below_trans BU1 bu2 BU1.size
      obtain ⟨wu3, hu3⟩ : ∃ u, u = wu2.alloc (.cells #[.int .i64 n1, .int .i64 n2, .int .i64 n3, .int .i64 n4, .int .i64 n5, .int .i64 n6, .int .i64 l1, .int .i64 l2, .int .i64 l3, .int .i64 l4, .int .i64 l5, .string ⟨u1.toArray⟩, .string ⟨u2.toArray⟩, .string ⟨u3.toArray⟩] 25) := ⟨_, rfl⟩
      have su3 : wu3.heap.size = w.heap.size + 3 := by rw [hu3]; simp [su2]
      have tu3 : TBox wu3 (w.heap.size + 2) 25 #[.int .i64 n1, .int .i64 n2, .int .i64 n3, .int .i64 n4, .int .i64 n5, .int .i64 n6, .int .i64 l1, .int .i64 l2, .int .i64 l3, .int .i64 l4, .int .i64 l5, .string ⟨u1.toArray⟩, .string ⟨u2.toArray⟩, .string ⟨u3.toArray⟩] := by rw [hu3, ← su2]; exact TBox.new _ _ _
      have bu3 : Below wu2.heap.size wu2 wu3 := by rw [hu3]; exact (Below.refl _ _).alloc (Nat.le_refl _) _
      have BU3 := below_trans BU2 bu3 BU2.size
      obtain ⟨wu4, hu4⟩ : ∃ u, u = wu3.alloc (.cells #[.int .i64 r1, .int .i64 r2, .int .i64 r3, .int .i64 r4, .int .i64 r5, .int .i64 r6, .int .i64 r7, .int .i64 r8, .int .i64 r9, .string ⟨tx.toArray⟩, .slice A ls.length cp] 31) := ⟨_, rfl⟩
      have su4 : wu4.heap.size = w.heap.size + 4 := by rw [hu4]; simp [su3]
      have tu4 : TBox wu4 (w.heap.size + 3) 31 #[.int .i64 r1, .int .i64 r2, .int .i64 r3, .int .i64 r4, .int .i64 r5, .int .i64 r6, .int .i64 r7, .int .i64 r8, .int .i64 r9, .string ⟨tx.toArray⟩, .slice A ls.length cp] := by rw [hu4, ← su3]; exact TBox.new _ _ _
      have bu4 : Below wu3.heap.size wu3 wu4 := by rw [hu4]; exact (Below.refl _ _).alloc (Nat.le_refl _) _
      have BU4 := below_trans BU3 bu4 BU3.size
      obtain ⟨wu5, hu5⟩ : ∃ u, u = wu4.alloc (.cells #[.int .i64 q1, .int .i64 q2, .int .i64 q3, .int .i64 q4, .int .i64 q5, .int .i64 q6, .int .i64 q7, .int .i64 q8, .int .i64 q9, .string ⟨ux.toArray⟩, .slice B ks.length cq] 31) := ⟨_, rfl⟩
      have su5 : wu5.heap.size = w.heap.size + 5 := by rw [hu5]; simp [su4]
      have tu5 : TBox wu5 (w.heap.size + 4) 31 #[.int .i64 q1, .int .i64 q2, .int .i64 q3, .int .i64 q4, .int .i64 q5, .int .i64 q6, .int .i64 q7, .int .i64 q8, .int .i64 q9, .string ⟨ux.toArray⟩, .slice B ks.length cq] := by rw [hu5, ← su4]; exact TBox.new _ _ _
      have bu5 : Below wu4.heap.size wu4 wu5 := by rw [hu5]; exact (Below.refl _ _).alloc (Nat.le_refl _) _
      have BU5 := below_trans BU4 bu5 BU4.size
      have Hs0 := Lib.hid ((((tu1.below bu2).below bu3).below bu4).below bu5)
      have Ha0 := Lib.hid (((tu2.below bu3).below bu4).below bu5)
      have Hb0 := Lib.hid ((tu3.below bu4).below bu5)
      have Hr0 := Lib.hid (tu4.below bu5)
      have Hq0 := Lib.hid tu5
      have BW_0 := Lib.hid BU5
      have HW : Hid (wu5 = (((((w.alloc (.cells (List.toArray ((.int .i64 m1) :: (.int .i64 m2) :: (.int .i64 m3) :: (.int .i64 m4) :: (.int .i64 m5) :: (.int .i64 m6) :: (.int .i64 k1) :: (.int .i64 k2) :: (.int .i64 k3) :: (.int .i64 k4) :: (.int .i64 k5) :: (.string ⟨t1.toArray⟩) :: (.string ⟨t2.toArray⟩) :: (.string ⟨t3.toArray⟩) :: (.int .i64 n1) :: (.int .i64 n2) :: (.int .i64 n3) :: (.int .i64 n4) :: (.int .i64 n5) :: (.int .i64 n6) :: (.int .i64 l1) :: (.int .i64 l2) :: (.int .i64 l3) :: (.int .i64 l4) :: (.int .i64 l5) :: (.string ⟨u1.toArray⟩) :: (.string ⟨u2.toArray⟩) :: (.string ⟨u3.toArray⟩) :: (.int .i64 r1) :: (.int .i64 r2) :: (.int .i64 r3) :: (.int .i64 r4) :: (.int .i64 r5) :: (.int .i64 r6) :: (.int .i64 r7) :: (.int .i64 r8) :: (.int .i64 r9) :: (.string ⟨tx.toArray⟩) :: (.slice A ls.length cp) :: (.int .i64 q1) :: (.int .i64 q2) :: (.int .i64 q3) :: (.int .i64 q4) :: (.int .i64 q5) :: (.int .i64 q6) :: (.int .i64 q7) :: (.int .i64 q8) :: (.int .i64 q9) :: (.string ⟨ux.toArray⟩) :: (.slice B ks.length cq) :: [])) 59)).alloc (.cells #[.int .i64 m1, .int .i64 m2, .int .i64 m3, .int .i64 m4, .int .i64 m5, .int .i64 m6, .int .i64 k1, .int .i64 k2, .int .i64 k3, .int .i64 k4, .int .i64 k5, .string ⟨t1.toArray⟩, .string ⟨t2.toArray⟩, .string ⟨t3.toArray⟩] 25)).alloc (.cells #[.int .i64 n1, .int .i64 n2, .int .i64 n3, .int .i64 n4, .int .i64 n5, .int .i64 n6, .int .i64 l1, .int .i64 l2, .int .i64 l3, .int .i64 l4, .int .i64 l5, .string ⟨u1.toArray⟩, .string ⟨u2.toArray⟩, .string ⟨u3.toArray⟩] 25)).alloc (.cells #[.int .i64 r1, .int .i64 r2, .int .i64 r3, .int .i64 r4, .int .i64 r5, .int .i64 r6, .int .i64 r7, .int .i64 r8, .int .i64 r9, .string ⟨tx.toArray⟩, .slice A ls.length cp] 31)).alloc (.cells #[.int .i64 q1, .int .i64 q2, .int .i64 q3, .int .i64 q4, .int .i64 q5, .int .i64 q6, .int .i64 q7, .int .i64 q8, .int .i64 q9, .string ⟨ux.toArray⟩, .slice B ks.length cq] 31))) := Lib.hid (by rw [hu5, hu4, hu3, hu2, hu1])
      have HSZ := Lib.hid su5
      obtain ⟨W0, hW0⟩ : ∃ u, u = wu5 := ⟨_, rfl⟩
      rw [← hW0] at Hs0 Ha0 Hb0 Hr0 Hq0 BW_0 HW HSZ
      clear hW0 hu1 su1 tu1 bu1 BU1 hu2 su2 tu2 bu2 BU2 hu3 su3 tu3 bu3 BU3 hu4 su4 tu4 bu4 BU4 hu5 su5 tu5 bu5 BU5
      have Rr0 := Lib.hid (hrow.below BW_0.out)
      have Rq0 := Lib.hid (krow.below BW_0.out)
      clear hrow krow
      go_enter Try.func8, Try.ntmps8
      go_wp2_with fail
      rw [← HW.out]
      refine (law_shown _).mono ?_
      rintro e w1 ⟨rfl, hb⟩
      have Ha_1 := Lib.hid (Ha0.out.below hb)
      have Hb_1 := Lib.hid (Hb0.out.below hb)
      have Hr_1 := Lib.hid (Hr0.out.below hb)
      have Hq_1 := Lib.hid (Hq0.out.below hb)
      have Rr_1 := Lib.hid (Rr0.out.below hb)
      have Rq_1 := Lib.hid (Rq0.out.below hb)
      have BW_1 := Lib.hid (below_trans BW_0.out hb BW_0.out.size)
      clear hb 
      have ca_0 : w1.cell? ⟨(w.heap.size + 1), 0, none⟩ = some (.int .i64 m1) := Ha_1.out.cell 0
      have ca_1 : w1.cell? ⟨(w.heap.size + 1), 1, none⟩ = some (.int .i64 m2) := Ha_1.out.cell 1
      have ca_2 : w1.cell? ⟨(w.heap.size + 1), 2, none⟩ = some (.int .i64 m3) := Ha_1.out.cell 2
      have ca_3 : w1.cell? ⟨(w.heap.size + 1), 3, none⟩ = some (.int .i64 m4) := Ha_1.out.cell 3
      have ca_4 : w1.cell? ⟨(w.heap.size + 1), 4, none⟩ = some (.int .i64 m5) := Ha_1.out.cell 4
      have ca_5 : w1.cell? ⟨(w.heap.size + 1), 5, none⟩ = some (.int .i64 m6) := Ha_1.out.cell 5
      have ca_6 : w1.cell? ⟨(w.heap.size + 1), 6, none⟩ = some (.int .i64 k1) := Ha_1.out.cell 6
      have ca_7 : w1.cell? ⟨(w.heap.size + 1), 7, none⟩ = some (.int .i64 k2) := Ha_1.out.cell 7
      have ca_8 : w1.cell? ⟨(w.heap.size + 1), 8, none⟩ = some (.int .i64 k3) := Ha_1.out.cell 8
      have ca_9 : w1.cell? ⟨(w.heap.size + 1), 9, none⟩ = some (.int .i64 k4) := Ha_1.out.cell 9
      have ca_10 : w1.cell? ⟨(w.heap.size + 1), 10, none⟩ = some (.int .i64 k5) := Ha_1.out.cell 10
      have ca_11 : w1.cell? ⟨(w.heap.size + 1), 11, none⟩ = some (.string ⟨t1.toArray⟩) := Ha_1.out.cell 11
      have ca_12 : w1.cell? ⟨(w.heap.size + 1), 12, none⟩ = some (.string ⟨t2.toArray⟩) := Ha_1.out.cell 12
      have ca_13 : w1.cell? ⟨(w.heap.size + 1), 13, none⟩ = some (.string ⟨t3.toArray⟩) := Ha_1.out.cell 13
      go_wp2_with fail
      refine (HSA.out _).mono ?_
      rintro e w2 ⟨rfl, hb⟩
      have Ha_2 := Lib.hid (Ha_1.out.below hb)
      have Hb_2 := Lib.hid (Hb_1.out.below hb)
      have Hr_2 := Lib.hid (Hr_1.out.below hb)
      have Hq_2 := Lib.hid (Hq_1.out.below hb)
      have Rr_2 := Lib.hid (Rr_1.out.below hb)
      have Rq_2 := Lib.hid (Rq_1.out.below hb)
      have BW_2 := Lib.hid (below_trans BW_1.out hb BW_1.out.size)
      rw [HA.out]
      clear hb 
      clear ca_0 ca_1 ca_2 ca_3 ca_4 ca_5 ca_6 ca_7 ca_8 ca_9 ca_10 ca_11 ca_12 ca_13
      have cb_0 : w2.cell? ⟨(w.heap.size + 2), 0, none⟩ = some (.int .i64 n1) := Hb_2.out.cell 0
      have cb_1 : w2.cell? ⟨(w.heap.size + 2), 1, none⟩ = some (.int .i64 n2) := Hb_2.out.cell 1
      have cb_2 : w2.cell? ⟨(w.heap.size + 2), 2, none⟩ = some (.int .i64 n3) := Hb_2.out.cell 2
      have cb_3 : w2.cell? ⟨(w.heap.size + 2), 3, none⟩ = some (.int .i64 n4) := Hb_2.out.cell 3
      have cb_4 : w2.cell? ⟨(w.heap.size + 2), 4, none⟩ = some (.int .i64 n5) := Hb_2.out.cell 4
      have cb_5 : w2.cell? ⟨(w.heap.size + 2), 5, none⟩ = some (.int .i64 n6) := Hb_2.out.cell 5
      have cb_6 : w2.cell? ⟨(w.heap.size + 2), 6, none⟩ = some (.int .i64 l1) := Hb_2.out.cell 6
      have cb_7 : w2.cell? ⟨(w.heap.size + 2), 7, none⟩ = some (.int .i64 l2) := Hb_2.out.cell 7
      have cb_8 : w2.cell? ⟨(w.heap.size + 2), 8, none⟩ = some (.int .i64 l3) := Hb_2.out.cell 8
      have cb_9 : w2.cell? ⟨(w.heap.size + 2), 9, none⟩ = some (.int .i64 l4) := Hb_2.out.cell 9
      have cb_10 : w2.cell? ⟨(w.heap.size + 2), 10, none⟩ = some (.int .i64 l5) := Hb_2.out.cell 10
      have cb_11 : w2.cell? ⟨(w.heap.size + 2), 11, none⟩ = some (.string ⟨u1.toArray⟩) := Hb_2.out.cell 11
      have cb_12 : w2.cell? ⟨(w.heap.size + 2), 12, none⟩ = some (.string ⟨u2.toArray⟩) := Hb_2.out.cell 12
      have cb_13 : w2.cell? ⟨(w.heap.size + 2), 13, none⟩ = some (.string ⟨u3.toArray⟩) := Hb_2.out.cell 13
      go_wp2_with fail
      refine (HSB.out _).mono ?_
      rintro e w3 ⟨rfl, hb⟩
      have Ha_3 := Lib.hid (Ha_2.out.below hb)
      have Hb_3 := Lib.hid (Hb_2.out.below hb)
      have Hr_3 := Lib.hid (Hr_2.out.below hb)
      have Hq_3 := Lib.hid (Hq_2.out.below hb)
      have Rr_3 := Lib.hid (Rr_2.out.below hb)
      have Rq_3 := Lib.hid (Rq_2.out.below hb)
      have BW_3 := Lib.hid (below_trans BW_2.out hb BW_2.out.size)
      rw [HB.out]
      clear hb 
      clear cb_0 cb_1 cb_2 cb_3 cb_4 cb_5 cb_6 cb_7 cb_8 cb_9 cb_10 cb_11 cb_12 cb_13
      go_wp2_with fail
      go_ret
      exact ⟨rfl, BW_3.out⟩
    | true =>
      have HB := Lib.hid hsb
      by_cases htx : 4000 < tx.length + ux.length
      · clear oa ob hsa hsb
        have htt : (4000 : Int) < (tx.length : Int) + (ux.length : Int) := by omega
        obtain ⟨wu1, hu1⟩ : ∃ u, u = w.alloc (.cells (List.toArray ((.int .i64 m1) :: (.int .i64 m2) :: (.int .i64 m3) :: (.int .i64 m4) :: (.int .i64 m5) :: (.int .i64 m6) :: (.int .i64 k1) :: (.int .i64 k2) :: (.int .i64 k3) :: (.int .i64 k4) :: (.int .i64 k5) :: (.string ⟨t1.toArray⟩) :: (.string ⟨t2.toArray⟩) :: (.string ⟨t3.toArray⟩) :: (.int .i64 n1) :: (.int .i64 n2) :: (.int .i64 n3) :: (.int .i64 n4) :: (.int .i64 n5) :: (.int .i64 n6) :: (.int .i64 l1) :: (.int .i64 l2) :: (.int .i64 l3) :: (.int .i64 l4) :: (.int .i64 l5) :: (.string ⟨u1.toArray⟩) :: (.string ⟨u2.toArray⟩) :: (.string ⟨u3.toArray⟩) :: (.int .i64 r1) :: (.int .i64 r2) :: (.int .i64 r3) :: (.int .i64 r4) :: (.int .i64 r5) :: (.int .i64 r6) :: (.int .i64 r7) :: (.int .i64 r8) :: (.int .i64 r9) :: (.string ⟨tx.toArray⟩) :: (.slice A ls.length cp) :: (.int .i64 q1) :: (.int .i64 q2) :: (.int .i64 q3) :: (.int .i64 q4) :: (.int .i64 q5) :: (.int .i64 q6) :: (.int .i64 q7) :: (.int .i64 q8) :: (.int .i64 q9) :: (.string ⟨ux.toArray⟩) :: (.slice B ks.length cq) :: [])) 59) := ⟨_, rfl⟩
        have su1 : wu1.heap.size = w.heap.size + 1 := by rw [hu1]; simp
        have tu1 : TBox wu1 (w.heap.size) 59 (List.toArray ((.int .i64 m1) :: (.int .i64 m2) :: (.int .i64 m3) :: (.int .i64 m4) :: (.int .i64 m5) :: (.int .i64 m6) :: (.int .i64 k1) :: (.int .i64 k2) :: (.int .i64 k3) :: (.int .i64 k4) :: (.int .i64 k5) :: (.string ⟨t1.toArray⟩) :: (.string ⟨t2.toArray⟩) :: (.string ⟨t3.toArray⟩) :: (.int .i64 n1) :: (.int .i64 n2) :: (.int .i64 n3) :: (.int .i64 n4) :: (.int .i64 n5) :: (.int .i64 n6) :: (.int .i64 l1) :: (.int .i64 l2) :: (.int .i64 l3) :: (.int .i64 l4) :: (.int .i64 l5) :: (.string ⟨u1.toArray⟩) :: (.string ⟨u2.toArray⟩) :: (.string ⟨u3.toArray⟩) :: (.int .i64 r1) :: (.int .i64 r2) :: (.int .i64 r3) :: (.int .i64 r4) :: (.int .i64 r5) :: (.int .i64 r6) :: (.int .i64 r7) :: (.int .i64 r8) :: (.int .i64 r9) :: (.string ⟨tx.toArray⟩) :: (.slice A ls.length cp) :: (.int .i64 q1) :: (.int .i64 q2) :: (.int .i64 q3) :: (.int .i64 q4) :: (.int .i64 q5) :: (.int .i64 q6) :: (.int .i64 q7) :: (.int .i64 q8) :: (.int .i64 q9) :: (.string ⟨ux.toArray⟩) :: (.slice B ks.length cq) :: [])) := by rw [hu1]; exact TBox.new _ _ _
        have bu1 : Below w.heap.size w wu1 := by rw [hu1]; exact (Below.refl _ _).alloc (Nat.le_refl _) _
        have BU1 := bu1
        obtain ⟨wu2, hu2⟩ : ∃ u, u = wu1.alloc (.cells #[.int .i64 m1, .int .i64 m2, .int .i64 m3, .int .i64 m4, .int .i64 m5, .int .i64 m6, .int .i64 k1, .int .i64 k2, .int .i64 k3, .int .i64 k4, .int .i64 k5, .string ⟨t1.toArray⟩, .string ⟨t2.toArray⟩, .string ⟨t3.toArray⟩] 25) := ⟨_, rfl⟩
        have su2 : wu2.heap.size = w.heap.size + 2 := by rw [hu2]; simp [su1]
        have tu2 : TBox wu2 (w.heap.size + 1) 25 #[.int .i64 m1, .int .i64 m2, .int .i64 m3, .int .i64 m4, .int .i64 m5, .int .i64 m6, .int .i64 k1, .int .i64 k2, .int .i64 k3, .int .i64 k4, .int .i64 k5, .string ⟨t1.toArray⟩, .string ⟨t2.toArray⟩, .string ⟨t3.toArray⟩] := by rw [hu2, ← su1]; exact TBox.new _ _ _
        have bu2 : Below wu1.heap.size wu1 wu2 := by rw [hu2]; exact (Below.refl _ _).alloc (Nat.le_refl _) _
        have BU2 := below_trans BU1 bu2 BU1.size
        obtain ⟨wu3, hu3⟩ : ∃ u, u = wu2.alloc (.cells #[.int .i64 n1, .int .i64 n2, .int .i64 n3, .int .i64 n4, .int .i64 n5, .int .i64 n6, .int .i64 l1, .int .i64 l2, .int .i64 l3, .int .i64 l4, .int .i64 l5, .string ⟨u1.toArray⟩, .string ⟨u2.toArray⟩, .string ⟨u3.toArray⟩] 25) := ⟨_, rfl⟩
        have su3 : wu3.heap.size = w.heap.size + 3 := by rw [hu3]; simp [su2]
        have tu3 : TBox wu3 (w.heap.size + 2) 25 #[.int .i64 n1, .int .i64 n2, .int .i64 n3, .int .i64 n4, .int .i64 n5, .int .i64 n6, .int .i64 l1, .int .i64 l2, .int .i64 l3, .int .i64 l4, .int .i64 l5, .string ⟨u1.toArray⟩, .string ⟨u2.toArray⟩, .string ⟨u3.toArray⟩] := by rw [hu3, ← su2]; exact TBox.new _ _ _
        have bu3 : Below wu2.heap.size wu2 wu3 := by rw [hu3]; exact (Below.refl _ _).alloc (Nat.le_refl _) _
        have BU3 := below_trans BU2 bu3 BU2.size
        obtain ⟨wu4, hu4⟩ : ∃ u, u = wu3.alloc (.cells #[.int .i64 r1, .int .i64 r2, .int .i64 r3, .int .i64 r4, .int .i64 r5, .int .i64 r6, .int .i64 r7, .int .i64 r8, .int .i64 r9, .string ⟨tx.toArray⟩, .slice A ls.length cp] 31) := ⟨_, rfl⟩
        have su4 : wu4.heap.size = w.heap.size + 4 := by rw [hu4]; simp [su3]
        have tu4 : TBox wu4 (w.heap.size + 3) 31 #[.int .i64 r1, .int .i64 r2, .int .i64 r3, .int .i64 r4, .int .i64 r5, .int .i64 r6, .int .i64 r7, .int .i64 r8, .int .i64 r9, .string ⟨tx.toArray⟩, .slice A ls.length cp] := by rw [hu4, ← su3]; exact TBox.new _ _ _
        have bu4 : Below wu3.heap.size wu3 wu4 := by rw [hu4]; exact (Below.refl _ _).alloc (Nat.le_refl _) _
        have BU4 := below_trans BU3 bu4 BU3.size
        obtain ⟨wu5, hu5⟩ : ∃ u, u = wu4.alloc (.cells #[.int .i64 q1, .int .i64 q2, .int .i64 q3, .int .i64 q4, .int .i64 q5, .int .i64 q6, .int .i64 q7, .int .i64 q8, .int .i64 q9, .string ⟨ux.toArray⟩, .slice B ks.length cq] 31) := ⟨_, rfl⟩
        have su5 : wu5.heap.size = w.heap.size + 5 := by rw [hu5]; simp [su4]
        have tu5 : TBox wu5 (w.heap.size + 4) 31 #[.int .i64 q1, .int .i64 q2, .int .i64 q3, .int .i64 q4, .int .i64 q5, .int .i64 q6, .int .i64 q7, .int .i64 q8, .int .i64 q9, .string ⟨ux.toArray⟩, .slice B ks.length cq] := by rw [hu5, ← su4]; exact TBox.new _ _ _
        have bu5 : Below wu4.heap.size wu4 wu5 := by rw [hu5]; exact (Below.refl _ _).alloc (Nat.le_refl _) _
        have BU5 := below_trans BU4 bu5 BU4.size
        have Hs0 := Lib.hid ((((tu1.below bu2).below bu3).below bu4).below bu5)
        have Ha0 := Lib.hid (((tu2.below bu3).below bu4).below bu5)
        have Hb0 := Lib.hid ((tu3.below bu4).below bu5)
        have Hr0 := Lib.hid (tu4.below bu5)
        have Hq0 := Lib.hid tu5
        have BW_0 := Lib.hid BU5
        have HW : Hid (wu5 = (((((w.alloc (.cells (List.toArray ((.int .i64 m1) :: (.int .i64 m2) :: (.int .i64 m3) :: (.int .i64 m4) :: (.int .i64 m5) :: (.int .i64 m6) :: (.int .i64 k1) :: (.int .i64 k2) :: (.int .i64 k3) :: (.int .i64 k4) :: (.int .i64 k5) :: (.string ⟨t1.toArray⟩) :: (.string ⟨t2.toArray⟩) :: (.string ⟨t3.toArray⟩) :: (.int .i64 n1) :: (.int .i64 n2) :: (.int .i64 n3) :: (.int .i64 n4) :: (.int .i64 n5) :: (.int .i64 n6) :: (.int .i64 l1) :: (.int .i64 l2) :: (.int .i64 l3) :: (.int .i64 l4) :: (.int .i64 l5) :: (.string ⟨u1.toArray⟩) :: (.string ⟨u2.toArray⟩) :: (.string ⟨u3.toArray⟩) :: (.int .i64 r1) :: (.int .i64 r2) :: (.int .i64 r3) :: (.int .i64 r4) :: (.int .i64 r5) :: (.int .i64 r6) :: (.int .i64 r7) :: (.int .i64 r8) :: (.int .i64 r9) :: (.string ⟨tx.toArray⟩) :: (.slice A ls.length cp) :: (.int .i64 q1) :: (.int .i64 q2) :: (.int .i64 q3) :: (.int .i64 q4) :: (.int .i64 q5) :: (.int .i64 q6) :: (.int .i64 q7) :: (.int .i64 q8) :: (.int .i64 q9) :: (.string ⟨ux.toArray⟩) :: (.slice B ks.length cq) :: [])) 59)).alloc (.cells #[.int .i64 m1, .int .i64 m2, .int .i64 m3, .int .i64 m4, .int .i64 m5, .int .i64 m6, .int .i64 k1, .int .i64 k2, .int .i64 k3, .int .i64 k4, .int .i64 k5, .string ⟨t1.toArray⟩, .string ⟨t2.toArray⟩, .string ⟨t3.toArray⟩] 25)).alloc (.cells #[.int .i64 n1, .int .i64 n2, .int .i64 n3, .int .i64 n4, .int .i64 n5, .int .i64 n6, .int .i64 l1, .int .i64 l2, .int .i64 l3, .int .i64 l4, .int .i64 l5, .string ⟨u1.toArray⟩, .string ⟨u2.toArray⟩, .string ⟨u3.toArray⟩] 25)).alloc (.cells #[.int .i64 r1, .int .i64 r2, .int .i64 r3, .int .i64 r4, .int .i64 r5, .int .i64 r6, .int .i64 r7, .int .i64 r8, .int .i64 r9, .string ⟨tx.toArray⟩, .slice A ls.length cp] 31)).alloc (.cells #[.int .i64 q1, .int .i64 q2, .int .i64 q3, .int .i64 q4, .int .i64 q5, .int .i64 q6, .int .i64 q7, .int .i64 q8, .int .i64 q9, .string ⟨ux.toArray⟩, .slice B ks.length cq] 31))) := Lib.hid (by rw [hu5, hu4, hu3, hu2, hu1])
        have HSZ := Lib.hid su5
        obtain ⟨W0, hW0⟩ : ∃ u, u = wu5 := ⟨_, rfl⟩
        rw [← hW0] at Hs0 Ha0 Hb0 Hr0 Hq0 BW_0 HW HSZ
        clear hW0 hu1 su1 tu1 bu1 BU1 hu2 su2 tu2 bu2 BU2 hu3 su3 tu3 bu3 BU3 hu4 su4 tu4 bu4 BU4 hu5 su5 tu5 bu5 BU5
        have Rr0 := Lib.hid (hrow.below BW_0.out)
        have Rq0 := Lib.hid (krow.below BW_0.out)
        clear hrow krow
        go_enter Try.func8, Try.ntmps8
        go_wp2_with fail
        rw [← HW.out]
        refine (law_shown _).mono ?_
        rintro e w1 ⟨rfl, hb⟩
        have Ha_1 := Lib.hid (Ha0.out.below hb)
        have Hb_1 := Lib.hid (Hb0.out.below hb)
        have Hr_1 := Lib.hid (Hr0.out.below hb)
        have Hq_1 := Lib.hid (Hq0.out.below hb)
        have Rr_1 := Lib.hid (Rr0.out.below hb)
        have Rq_1 := Lib.hid (Rq0.out.below hb)
        have BW_1 := Lib.hid (below_trans BW_0.out hb BW_0.out.size)
        clear hb 
        have ca_0 : w1.cell? ⟨(w.heap.size + 1), 0, none⟩ = some (.int .i64 m1) := Ha_1.out.cell 0
        have ca_1 : w1.cell? ⟨(w.heap.size + 1), 1, none⟩ = some (.int .i64 m2) := Ha_1.out.cell 1
        have ca_2 : w1.cell? ⟨(w.heap.size + 1), 2, none⟩ = some (.int .i64 m3) := Ha_1.out.cell 2
        have ca_3 : w1.cell? ⟨(w.heap.size + 1), 3, none⟩ = some (.int .i64 m4) := Ha_1.out.cell 3
        have ca_4 : w1.cell? ⟨(w.heap.size + 1), 4, none⟩ = some (.int .i64 m5) := Ha_1.out.cell 4
        have ca_5 : w1.cell? ⟨(w.heap.size + 1), 5, none⟩ = some (.int .i64 m6) := Ha_1.out.cell 5
        have ca_6 : w1.cell? ⟨(w.heap.size + 1), 6, none⟩ = some (.int .i64 k1) := Ha_1.out.cell 6
        have ca_7 : w1.cell? ⟨(w.heap.size + 1), 7, none⟩ = some (.int .i64 k2) := Ha_1.out.cell 7
        have ca_8 : w1.cell? ⟨(w.heap.size + 1), 8, none⟩ = some (.int .i64 k3) := Ha_1.out.cell 8
        have ca_9 : w1.cell? ⟨(w.heap.size + 1), 9, none⟩ = some (.int .i64 k4) := Ha_1.out.cell 9
        have ca_10 : w1.cell? ⟨(w.heap.size + 1), 10, none⟩ = some (.int .i64 k5) := Ha_1.out.cell 10
        have ca_11 : w1.cell? ⟨(w.heap.size + 1), 11, none⟩ = some (.string ⟨t1.toArray⟩) := Ha_1.out.cell 11
        have ca_12 : w1.cell? ⟨(w.heap.size + 1), 12, none⟩ = some (.string ⟨t2.toArray⟩) := Ha_1.out.cell 12
        have ca_13 : w1.cell? ⟨(w.heap.size + 1), 13, none⟩ = some (.string ⟨t3.toArray⟩) := Ha_1.out.cell 13
        go_wp2_with fail
        refine (HSA.out _).mono ?_
        rintro e w2 ⟨rfl, hb⟩
        have Ha_2 := Lib.hid (Ha_1.out.below hb)
        have Hb_2 := Lib.hid (Hb_1.out.below hb)
        have Hr_2 := Lib.hid (Hr_1.out.below hb)
        have Hq_2 := Lib.hid (Hq_1.out.below hb)
        have Rr_2 := Lib.hid (Rr_1.out.below hb)
        have Rq_2 := Lib.hid (Rq_1.out.below hb)
        have BW_2 := Lib.hid (below_trans BW_1.out hb BW_1.out.size)
        rw [HA.out]
        clear hb 
        clear ca_0 ca_1 ca_2 ca_3 ca_4 ca_5 ca_6 ca_7 ca_8 ca_9 ca_10 ca_11 ca_12 ca_13
        have cb_0 : w2.cell? ⟨(w.heap.size + 2), 0, none⟩ = some (.int .i64 n1) := Hb_2.out.cell 0
        have cb_1 : w2.cell? ⟨(w.heap.size + 2), 1, none⟩ = some (.int .i64 n2) := Hb_2.out.cell 1
        have cb_2 : w2.cell? ⟨(w.heap.size + 2), 2, none⟩ = some (.int .i64 n3) := Hb_2.out.cell 2
        have cb_3 : w2.cell? ⟨(w.heap.size + 2), 3, none⟩ = some (.int .i64 n4) := Hb_2.out.cell 3
        have cb_4 : w2.cell? ⟨(w.heap.size + 2), 4, none⟩ = some (.int .i64 n5) := Hb_2.out.cell 4
        have cb_5 : w2.cell? ⟨(w.heap.size + 2), 5, none⟩ = some (.int .i64 n6) := Hb_2.out.cell 5
        have cb_6 : w2.cell? ⟨(w.heap.size + 2), 6, none⟩ = some (.int .i64 l1) := Hb_2.out.cell 6
        have cb_7 : w2.cell? ⟨(w.heap.size + 2), 7, none⟩ = some (.int .i64 l2) := Hb_2.out.cell 7
        have cb_8 : w2.cell? ⟨(w.heap.size + 2), 8, none⟩ = some (.int .i64 l3) := Hb_2.out.cell 8
        have cb_9 : w2.cell? ⟨(w.heap.size + 2), 9, none⟩ = some (.int .i64 l4) := Hb_2.out.cell 9
        have cb_10 : w2.cell? ⟨(w.heap.size + 2), 10, none⟩ = some (.int .i64 l5) := Hb_2.out.cell 10
        have cb_11 : w2.cell? ⟨(w.heap.size + 2), 11, none⟩ = some (.string ⟨u1.toArray⟩) := Hb_2.out.cell 11
        have cb_12 : w2.cell? ⟨(w.heap.size + 2), 12, none⟩ = some (.string ⟨u2.toArray⟩) := Hb_2.out.cell 12
        have cb_13 : w2.cell? ⟨(w.heap.size + 2), 13, none⟩ = some (.string ⟨u3.toArray⟩) := Hb_2.out.cell 13
        go_wp2_with fail
        refine (HSB.out _).mono ?_
        rintro e w3 ⟨rfl, hb⟩
        have Ha_3 := Lib.hid (Ha_2.out.below hb)
        have Hb_3 := Lib.hid (Hb_2.out.below hb)
        have Hr_3 := Lib.hid (Hr_2.out.below hb)
        have Hq_3 := Lib.hid (Hq_2.out.below hb)
        have Rr_3 := Lib.hid (Rr_2.out.below hb)
        have Rq_3 := Lib.hid (Rq_2.out.below hb)
        have BW_3 := Lib.hid (below_trans BW_2.out hb BW_2.out.size)
        rw [HB.out]
        clear hb 
        clear cb_0 cb_1 cb_2 cb_3 cb_4 cb_5 cb_6 cb_7 cb_8 cb_9 cb_10 cb_11 cb_12 cb_13
        have cr_0 : w3.cell? ⟨(w.heap.size + 3), 0, none⟩ = some (.int .i64 r1) := Hr_3.out.cell 0
        have cr_1 : w3.cell? ⟨(w.heap.size + 3), 1, none⟩ = some (.int .i64 r2) := Hr_3.out.cell 1
        have cr_2 : w3.cell? ⟨(w.heap.size + 3), 2, none⟩ = some (.int .i64 r3) := Hr_3.out.cell 2
        have cr_3 : w3.cell? ⟨(w.heap.size + 3), 3, none⟩ = some (.int .i64 r4) := Hr_3.out.cell 3
        have cr_4 : w3.cell? ⟨(w.heap.size + 3), 4, none⟩ = some (.int .i64 r5) := Hr_3.out.cell 4
        have cr_5 : w3.cell? ⟨(w.heap.size + 3), 5, none⟩ = some (.int .i64 r6) := Hr_3.out.cell 5
        have cr_6 : w3.cell? ⟨(w.heap.size + 3), 6, none⟩ = some (.int .i64 r7) := Hr_3.out.cell 6
        have cr_7 : w3.cell? ⟨(w.heap.size + 3), 7, none⟩ = some (.int .i64 r8) := Hr_3.out.cell 7
        have cr_8 : w3.cell? ⟨(w.heap.size + 3), 8, none⟩ = some (.int .i64 r9) := Hr_3.out.cell 8
        have cr_9 : w3.cell? ⟨(w.heap.size + 3), 9, none⟩ = some (.string ⟨tx.toArray⟩) := Hr_3.out.cell 9
        have cr_10 : w3.cell? ⟨(w.heap.size + 3), 10, none⟩ = some (.slice A ls.length cp) := Hr_3.out.cell 10
        have cq_0 : w3.cell? ⟨(w.heap.size + 4), 0, none⟩ = some (.int .i64 q1) := Hq_3.out.cell 0
        have cq_1 : w3.cell? ⟨(w.heap.size + 4), 1, none⟩ = some (.int .i64 q2) := Hq_3.out.cell 1
        have cq_2 : w3.cell? ⟨(w.heap.size + 4), 2, none⟩ = some (.int .i64 q3) := Hq_3.out.cell 2
        have cq_3 : w3.cell? ⟨(w.heap.size + 4), 3, none⟩ = some (.int .i64 q4) := Hq_3.out.cell 3
        have cq_4 : w3.cell? ⟨(w.heap.size + 4), 4, none⟩ = some (.int .i64 q5) := Hq_3.out.cell 4
        have cq_5 : w3.cell? ⟨(w.heap.size + 4), 5, none⟩ = some (.int .i64 q6) := Hq_3.out.cell 5
        have cq_6 : w3.cell? ⟨(w.heap.size + 4), 6, none⟩ = some (.int .i64 q7) := Hq_3.out.cell 6
        have cq_7 : w3.cell? ⟨(w.heap.size + 4), 7, none⟩ = some (.int .i64 q8) := Hq_3.out.cell 7
        have cq_8 : w3.cell? ⟨(w.heap.size + 4), 8, none⟩ = some (.int .i64 q9) := Hq_3.out.cell 8
        have cq_9 : w3.cell? ⟨(w.heap.size + 4), 9, none⟩ = some (.string ⟨ux.toArray⟩) := Hq_3.out.cell 9
        have cq_10 : w3.cell? ⟨(w.heap.size + 4), 10, none⟩ = some (.slice B ks.length cq) := Hq_3.out.cell 10
        go_wp2_with fail
        go_ret
        exact ⟨rfl, BW_3.out⟩
      by_cases hnn : 300 < ls.length + ks.length
      · clear oa ob hsa hsb
        have hnt : (300 : Int) < (ls.length : Int) + (ks.length : Int) := by omega
        obtain ⟨wu1, hu1⟩ : ∃ u, u = w.alloc (.cells (List.toArray ((.int .i64 m1) :: (.int .i64 m2) :: (.int .i64 m3) :: (.int .i64 m4) :: (.int .i64 m5) :: (.int .i64 m6) :: (.int .i64 k1) :: (.int .i64 k2) :: (.int .i64 k3) :: (.int .i64 k4) :: (.int .i64 k5) :: (.string ⟨t1.toArray⟩) :: (.string ⟨t2.toArray⟩) :: (.string ⟨t3.toArray⟩) :: (.int .i64 n1) :: (.int .i64 n2) :: (.int .i64 n3) :: (.int .i64 n4) :: (.int .i64 n5) :: (.int .i64 n6) :: (.int .i64 l1) :: (.int .i64 l2) :: (.int .i64 l3) :: (.int .i64 l4) :: (.int .i64 l5) :: (.string ⟨u1.toArray⟩) :: (.string ⟨u2.toArray⟩) :: (.string ⟨u3.toArray⟩) :: (.int .i64 r1) :: (.int .i64 r2) :: (.int .i64 r3) :: (.int .i64 r4) :: (.int .i64 r5) :: (.int .i64 r6) :: (.int .i64 r7) :: (.int .i64 r8) :: (.int .i64 r9) :: (.string ⟨tx.toArray⟩) :: (.slice A ls.length cp) :: (.int .i64 q1) :: (.int .i64 q2) :: (.int .i64 q3) :: (.int .i64 q4) :: (.int .i64 q5) :: (.int .i64 q6) :: (.int .i64 q7) :: (.int .i64 q8) :: (.int .i64 q9) :: (.string ⟨ux.toArray⟩) :: (.slice B ks.length cq) :: [])) 59) := ⟨_, rfl⟩
        have su1 : wu1.heap.size = w.heap.size + 1 := by rw [hu1]; simp
        have tu1 : TBox wu1 (w.heap.size) 59 (List.toArray ((.int .i64 m1) :: (.int .i64 m2) :: (.int .i64 m3) :: (.int .i64 m4) :: (.int .i64 m5) :: (.int .i64 m6) :: (.int .i64 k1) :: (.int .i64 k2) :: (.int .i64 k3) :: (.int .i64 k4) :: (.int .i64 k5) :: (.string ⟨t1.toArray⟩) :: (.string ⟨t2.toArray⟩) :: (.string ⟨t3.toArray⟩) :: (.int .i64 n1) :: (.int .i64 n2) :: (.int .i64 n3) :: (.int .i64 n4) :: (.int .i64 n5) :: (.int .i64 n6) :: (.int .i64 l1) :: (.int .i64 l2) :: (.int .i64 l3) :: (.int .i64 l4) :: (.int .i64 l5) :: (.string ⟨u1.toArray⟩) :: (.string ⟨u2.toArray⟩) :: (.string ⟨u3.toArray⟩) :: (.int .i64 r1) :: (.int .i64 r2) :: (.int .i64 r3) :: (.int .i64 r4) :: (.int .i64 r5) :: (.int .i64 r6) :: (.int .i64 r7) :: (.int .i64 r8) :: (.int .i64 r9) :: (.string ⟨tx.toArray⟩) :: (.slice A ls.length cp) :: (.int .i64 q1) :: (.int .i64 q2) :: (.int .i64 q3) :: (.int .i64 q4) :: (.int .i64 q5) :: (.int .i64 q6) :: (.int .i64 q7) :: (.int .i64 q8) :: (.int .i64 q9) :: (.string ⟨ux.toArray⟩) :: (.slice B ks.length cq) :: [])) := by rw [hu1]; exact TBox.new _ _ _
        have bu1 : Below w.heap.size w wu1 := by rw [hu1]; exact (Below.refl _ _).alloc (Nat.le_refl _) _
        have BU1 := bu1
        obtain ⟨wu2, hu2⟩ : ∃ u, u = wu1.alloc (.cells #[.int .i64 m1, .int .i64 m2, .int .i64 m3, .int .i64 m4, .int .i64 m5, .int .i64 m6, .int .i64 k1, .int .i64 k2, .int .i64 k3, .int .i64 k4, .int .i64 k5, .string ⟨t1.toArray⟩, .string ⟨t2.toArray⟩, .string ⟨t3.toArray⟩] 25) := ⟨_, rfl⟩
        have su2 : wu2.heap.size = w.heap.size + 2 := by rw [hu2]; simp [su1]
        have tu2 : TBox wu2 (w.heap.size + 1) 25 #[.int .i64 m1, .int .i64 m2, .int .i64 m3, .int .i64 m4, .int .i64 m5, .int .i64 m6, .int .i64 k1, .int .i64 k2, .int .i64 k3, .int .i64 k4, .int .i64 k5, .string ⟨t1.toArray⟩, .string ⟨t2.toArray⟩, .string ⟨t3.toArray⟩] := by rw [hu2, ← su1]; exact TBox.new _ _ _
        have bu2 : Below wu1.heap.size wu1 wu2 := by rw [hu2]; exact (Below.refl _ _).alloc (Nat.le_refl _) _
        have BU2 := below_trans BU1 bu2 BU1.size
        obtain ⟨wu3, hu3⟩ : ∃ u, u = wu2.alloc (.cells #[.int .i64 n1, .int .i64 n2, .int .i64 n3, .int .i64 n4, .int .i64 n5, .int .i64 n6, .int .i64 l1, .int .i64 l2, .int .i64 l3, .int .i64 l4, .int .i64 l5, .string ⟨u1.toArray⟩, .string ⟨u2.toArray⟩, .string ⟨u3.toArray⟩] 25) := ⟨_, rfl⟩
        have su3 : wu3.heap.size = w.heap.size + 3 := by rw [hu3]; simp [su2]
        have tu3 : TBox wu3 (w.heap.size + 2) 25 #[.int .i64 n1, .int .i64 n2, .int .i64 n3, .int .i64 n4, .int .i64 n5, .int .i64 n6, .int .i64 l1, .int .i64 l2, .int .i64 l3, .int .i64 l4, .int .i64 l5, .string ⟨u1.toArray⟩, .string ⟨u2.toArray⟩, .string ⟨u3.toArray⟩] := by rw [hu3, ← su2]; exact TBox.new _ _ _
        have bu3 : Below wu2.heap.size wu2 wu3 := by rw [hu3]; exact (Below.refl _ _).alloc (Nat.le_refl _) _
        have BU3 := below_trans BU2 bu3 BU2.size
        obtain ⟨wu4, hu4⟩ : ∃ u, u = wu3.alloc (.cells #[.int .i64 r1, .int .i64 r2, .int .i64 r3, .int .i64 r4, .int .i64 r5, .int .i64 r6, .int .i64 r7, .int .i64 r8, .int .i64 r9, .string ⟨tx.toArray⟩, .slice A ls.length cp] 31) := ⟨_, rfl⟩
        have su4 : wu4.heap.size = w.heap.size + 4 := by rw [hu4]; simp [su3]
        have tu4 : TBox wu4 (w.heap.size + 3) 31 #[.int .i64 r1, .int .i64 r2, .int .i64 r3, .int .i64 r4, .int .i64 r5, .int .i64 r6, .int .i64 r7, .int .i64 r8, .int .i64 r9, .string ⟨tx.toArray⟩, .slice A ls.length cp] := by rw [hu4, ← su3]; exact TBox.new _ _ _
        have bu4 : Below wu3.heap.size wu3 wu4 := by rw [hu4]; exact (Below.refl _ _).alloc (Nat.le_refl _) _
        have BU4 := below_trans BU3 bu4 BU3.size
        obtain ⟨wu5, hu5⟩ : ∃ u, u = wu4.alloc (.cells #[.int .i64 q1, .int .i64 q2, .int .i64 q3, .int .i64 q4, .int .i64 q5, .int .i64 q6, .int .i64 q7, .int .i64 q8, .int .i64 q9, .string ⟨ux.toArray⟩, .slice B ks.length cq] 31) := ⟨_, rfl⟩
        have su5 : wu5.heap.size = w.heap.size + 5 := by rw [hu5]; simp [su4]
        have tu5 : TBox wu5 (w.heap.size + 4) 31 #[.int .i64 q1, .int .i64 q2, .int .i64 q3, .int .i64 q4, .int .i64 q5, .int .i64 q6, .int .i64 q7, .int .i64 q8, .int .i64 q9, .string ⟨ux.toArray⟩, .slice B ks.length cq] := by rw [hu5, ← su4]; exact TBox.new _ _ _
        have bu5 : Below wu4.heap.size wu4 wu5 := by rw [hu5]; exact (Below.refl _ _).alloc (Nat.le_refl _) _
        have BU5 := below_trans BU4 bu5 BU4.size
        have Hs0 := Lib.hid ((((tu1.below bu2).below bu3).below bu4).below bu5)
        have Ha0 := Lib.hid (((tu2.below bu3).below bu4).below bu5)
        have Hb0 := Lib.hid ((tu3.below bu4).below bu5)
        have Hr0 := Lib.hid (tu4.below bu5)
        have Hq0 := Lib.hid tu5
        have BW_0 := Lib.hid BU5
        have HW : Hid (wu5 = (((((w.alloc (.cells (List.toArray ((.int .i64 m1) :: (.int .i64 m2) :: (.int .i64 m3) :: (.int .i64 m4) :: (.int .i64 m5) :: (.int .i64 m6) :: (.int .i64 k1) :: (.int .i64 k2) :: (.int .i64 k3) :: (.int .i64 k4) :: (.int .i64 k5) :: (.string ⟨t1.toArray⟩) :: (.string ⟨t2.toArray⟩) :: (.string ⟨t3.toArray⟩) :: (.int .i64 n1) :: (.int .i64 n2) :: (.int .i64 n3) :: (.int .i64 n4) :: (.int .i64 n5) :: (.int .i64 n6) :: (.int .i64 l1) :: (.int .i64 l2) :: (.int .i64 l3) :: (.int .i64 l4) :: (.int .i64 l5) :: (.string ⟨u1.toArray⟩) :: (.string ⟨u2.toArray⟩) :: (.string ⟨u3.toArray⟩) :: (.int .i64 r1) :: (.int .i64 r2) :: (.int .i64 r3) :: (.int .i64 r4) :: (.int .i64 r5) :: (.int .i64 r6) :: (.int .i64 r7) :: (.int .i64 r8) :: (.int .i64 r9) :: (.string ⟨tx.toArray⟩) :: (.slice A ls.length cp) :: (.int .i64 q1) :: (.int .i64 q2) :: (.int .i64 q3) :: (.int .i64 q4) :: (.int .i64 q5) :: (.int .i64 q6) :: (.int .i64 q7) :: (.int .i64 q8) :: (.int .i64 q9) :: (.string ⟨ux.toArray⟩) :: (.slice B ks.length cq) :: [])) 59)).alloc (.cells #[.int .i64 m1, .int .i64 m2, .int .i64 m3, .int .i64 m4, .int .i64 m5, .int .i64 m6, .int .i64 k1, .int .i64 k2, .int .i64 k3, .int .i64 k4, .int .i64 k5, .string ⟨t1.toArray⟩, .string ⟨t2.toArray⟩, .string ⟨t3.toArray⟩] 25)).alloc (.cells #[.int .i64 n1, .int .i64 n2, .int .i64 n3, .int .i64 n4, .int .i64 n5, .int .i64 n6, .int .i64 l1, .int .i64 l2, .int .i64 l3, .int .i64 l4, .int .i64 l5, .string ⟨u1.toArray⟩, .string ⟨u2.toArray⟩, .string ⟨u3.toArray⟩] 25)).alloc (.cells #[.int .i64 r1, .int .i64 r2, .int .i64 r3, .int .i64 r4, .int .i64 r5, .int .i64 r6, .int .i64 r7, .int .i64 r8, .int .i64 r9, .string ⟨tx.toArray⟩, .slice A ls.length cp] 31)).alloc (.cells #[.int .i64 q1, .int .i64 q2, .int .i64 q3, .int .i64 q4, .int .i64 q5, .int .i64 q6, .int .i64 q7, .int .i64 q8, .int .i64 q9, .string ⟨ux.toArray⟩, .slice B ks.length cq] 31))) := Lib.hid (by rw [hu5, hu4, hu3, hu2, hu1])
        have HSZ := Lib.hid su5
        obtain ⟨W0, hW0⟩ : ∃ u, u = wu5 := ⟨_, rfl⟩
        rw [← hW0] at Hs0 Ha0 Hb0 Hr0 Hq0 BW_0 HW HSZ
        clear hW0 hu1 su1 tu1 bu1 BU1 hu2 su2 tu2 bu2 BU2 hu3 su3 tu3 bu3 BU3 hu4 su4 tu4 bu4 BU4 hu5 su5 tu5 bu5 BU5
        have Rr0 := Lib.hid (hrow.below BW_0.out)
        have Rq0 := Lib.hid (krow.below BW_0.out)
        clear hrow krow
        go_enter Try.func8, Try.ntmps8
        go_wp2_with fail
        rw [← HW.out]
        refine (law_shown _).mono ?_
        rintro e w1 ⟨rfl, hb⟩
        have Ha_1 := Lib.hid (Ha0.out.below hb)
        have Hb_1 := Lib.hid (Hb0.out.below hb)
        have Hr_1 := Lib.hid (Hr0.out.below hb)
        have Hq_1 := Lib.hid (Hq0.out.below hb)
        have Rr_1 := Lib.hid (Rr0.out.below hb)
        have Rq_1 := Lib.hid (Rq0.out.below hb)
        have BW_1 := Lib.hid (below_trans BW_0.out hb BW_0.out.size)
        clear hb 
        have ca_0 : w1.cell? ⟨(w.heap.size + 1), 0, none⟩ = some (.int .i64 m1) := Ha_1.out.cell 0
        have ca_1 : w1.cell? ⟨(w.heap.size + 1), 1, none⟩ = some (.int .i64 m2) := Ha_1.out.cell 1
        have ca_2 : w1.cell? ⟨(w.heap.size + 1), 2, none⟩ = some (.int .i64 m3) := Ha_1.out.cell 2
        have ca_3 : w1.cell? ⟨(w.heap.size + 1), 3, none⟩ = some (.int .i64 m4) := Ha_1.out.cell 3
        have ca_4 : w1.cell? ⟨(w.heap.size + 1), 4, none⟩ = some (.int .i64 m5) := Ha_1.out.cell 4
        have ca_5 : w1.cell? ⟨(w.heap.size + 1), 5, none⟩ = some (.int .i64 m6) := Ha_1.out.cell 5
        have ca_6 : w1.cell? ⟨(w.heap.size + 1), 6, none⟩ = some (.int .i64 k1) := Ha_1.out.cell 6
        have ca_7 : w1.cell? ⟨(w.heap.size + 1), 7, none⟩ = some (.int .i64 k2) := Ha_1.out.cell 7
        have ca_8 : w1.cell? ⟨(w.heap.size + 1), 8, none⟩ = some (.int .i64 k3) := Ha_1.out.cell 8
        have ca_9 : w1.cell? ⟨(w.heap.size + 1), 9, none⟩ = some (.int .i64 k4) := Ha_1.out.cell 9
        have ca_10 : w1.cell? ⟨(w.heap.size + 1), 10, none⟩ = some (.int .i64 k5) := Ha_1.out.cell 10
        have ca_11 : w1.cell? ⟨(w.heap.size + 1), 11, none⟩ = some (.string ⟨t1.toArray⟩) := Ha_1.out.cell 11
        have ca_12 : w1.cell? ⟨(w.heap.size + 1), 12, none⟩ = some (.string ⟨t2.toArray⟩) := Ha_1.out.cell 12
        have ca_13 : w1.cell? ⟨(w.heap.size + 1), 13, none⟩ = some (.string ⟨t3.toArray⟩) := Ha_1.out.cell 13
        go_wp2_with fail
        refine (HSA.out _).mono ?_
        rintro e w2 ⟨rfl, hb⟩
        have Ha_2 := Lib.hid (Ha_1.out.below hb)
        have Hb_2 := Lib.hid (Hb_1.out.below hb)
        have Hr_2 := Lib.hid (Hr_1.out.below hb)
        have Hq_2 := Lib.hid (Hq_1.out.below hb)
        have Rr_2 := Lib.hid (Rr_1.out.below hb)
        have Rq_2 := Lib.hid (Rq_1.out.below hb)
        have BW_2 := Lib.hid (below_trans BW_1.out hb BW_1.out.size)
        rw [HA.out]
        clear hb 
        clear ca_0 ca_1 ca_2 ca_3 ca_4 ca_5 ca_6 ca_7 ca_8 ca_9 ca_10 ca_11 ca_12 ca_13
        have cb_0 : w2.cell? ⟨(w.heap.size + 2), 0, none⟩ = some (.int .i64 n1) := Hb_2.out.cell 0
        have cb_1 : w2.cell? ⟨(w.heap.size + 2), 1, none⟩ = some (.int .i64 n2) := Hb_2.out.cell 1
        have cb_2 : w2.cell? ⟨(w.heap.size + 2), 2, none⟩ = some (.int .i64 n3) := Hb_2.out.cell 2
        have cb_3 : w2.cell? ⟨(w.heap.size + 2), 3, none⟩ = some (.int .i64 n4) := Hb_2.out.cell 3
        have cb_4 : w2.cell? ⟨(w.heap.size + 2), 4, none⟩ = some (.int .i64 n5) := Hb_2.out.cell 4
        have cb_5 : w2.cell? ⟨(w.heap.size + 2), 5, none⟩ = some (.int .i64 n6) := Hb_2.out.cell 5
        have cb_6 : w2.cell? ⟨(w.heap.size + 2), 6, none⟩ = some (.int .i64 l1) := Hb_2.out.cell 6
        have cb_7 : w2.cell? ⟨(w.heap.size + 2), 7, none⟩ = some (.int .i64 l2) := Hb_2.out.cell 7
        have cb_8 : w2.cell? ⟨(w.heap.size + 2), 8, none⟩ = some (.int .i64 l3) := Hb_2.out.cell 8
        have cb_9 : w2.cell? ⟨(w.heap.size + 2), 9, none⟩ = some (.int .i64 l4) := Hb_2.out.cell 9
        have cb_10 : w2.cell? ⟨(w.heap.size + 2), 10, none⟩ = some (.int .i64 l5) := Hb_2.out.cell 10
        have cb_11 : w2.cell? ⟨(w.heap.size + 2), 11, none⟩ = some (.string ⟨u1.toArray⟩) := Hb_2.out.cell 11
        have cb_12 : w2.cell? ⟨(w.heap.size + 2), 12, none⟩ = some (.string ⟨u2.toArray⟩) := Hb_2.out.cell 12
        have cb_13 : w2.cell? ⟨(w.heap.size + 2), 13, none⟩ = some (.string ⟨u3.toArray⟩) := Hb_2.out.cell 13
        go_wp2_with fail
        refine (HSB.out _).mono ?_
        rintro e w3 ⟨rfl, hb⟩
        have Ha_3 := Lib.hid (Ha_2.out.below hb)
        have Hb_3 := Lib.hid (Hb_2.out.below hb)
        have Hr_3 := Lib.hid (Hr_2.out.below hb)
        have Hq_3 := Lib.hid (Hq_2.out.below hb)
        have Rr_3 := Lib.hid (Rr_2.out.below hb)
        have Rq_3 := Lib.hid (Rq_2.out.below hb)
        have BW_3 := Lib.hid (below_trans BW_2.out hb BW_2.out.size)
        rw [HB.out]
        clear hb 
        clear cb_0 cb_1 cb_2 cb_3 cb_4 cb_5 cb_6 cb_7 cb_8 cb_9 cb_10 cb_11 cb_12 cb_13
        have cr_0 : w3.cell? ⟨(w.heap.size + 3), 0, none⟩ = some (.int .i64 r1) := Hr_3.out.cell 0
        have cr_1 : w3.cell? ⟨(w.heap.size + 3), 1, none⟩ = some (.int .i64 r2) := Hr_3.out.cell 1
        have cr_2 : w3.cell? ⟨(w.heap.size + 3), 2, none⟩ = some (.int .i64 r3) := Hr_3.out.cell 2
        have cr_3 : w3.cell? ⟨(w.heap.size + 3), 3, none⟩ = some (.int .i64 r4) := Hr_3.out.cell 3
        have cr_4 : w3.cell? ⟨(w.heap.size + 3), 4, none⟩ = some (.int .i64 r5) := Hr_3.out.cell 4
        have cr_5 : w3.cell? ⟨(w.heap.size + 3), 5, none⟩ = some (.int .i64 r6) := Hr_3.out.cell 5
        have cr_6 : w3.cell? ⟨(w.heap.size + 3), 6, none⟩ = some (.int .i64 r7) := Hr_3.out.cell 6
        have cr_7 : w3.cell? ⟨(w.heap.size + 3), 7, none⟩ = some (.int .i64 r8) := Hr_3.out.cell 7
        have cr_8 : w3.cell? ⟨(w.heap.size + 3), 8, none⟩ = some (.int .i64 r9) := Hr_3.out.cell 8
        have cr_9 : w3.cell? ⟨(w.heap.size + 3), 9, none⟩ = some (.string ⟨tx.toArray⟩) := Hr_3.out.cell 9
        have cr_10 : w3.cell? ⟨(w.heap.size + 3), 10, none⟩ = some (.slice A ls.length cp) := Hr_3.out.cell 10
        have cq_0 : w3.cell? ⟨(w.heap.size + 4), 0, none⟩ = some (.int .i64 q1) := Hq_3.out.cell 0
        have cq_1 : w3.cell? ⟨(w.heap.size + 4), 1, none⟩ = some (.int .i64 q2) := Hq_3.out.cell 1
        have cq_2 : w3.cell? ⟨(w.heap.size + 4), 2, none⟩ = some (.int .i64 q3) := Hq_3.out.cell 2
        have cq_3 : w3.cell? ⟨(w.heap.size + 4), 3, none⟩ = some (.int .i64 q4) := Hq_3.out.cell 3
        have cq_4 : w3.cell? ⟨(w.heap.size + 4), 4, none⟩ = some (.int .i64 q5) := Hq_3.out.cell 4
        have cq_5 : w3.cell? ⟨(w.heap.size + 4), 5, none⟩ = some (.int .i64 q6) := Hq_3.out.cell 5
        have cq_6 : w3.cell? ⟨(w.heap.size + 4), 6, none⟩ = some (.int .i64 q7) := Hq_3.out.cell 6
        have cq_7 : w3.cell? ⟨(w.heap.size + 4), 7, none⟩ = some (.int .i64 q8) := Hq_3.out.cell 7
        have cq_8 : w3.cell? ⟨(w.heap.size + 4), 8, none⟩ = some (.int .i64 q9) := Hq_3.out.cell 8
        have cq_9 : w3.cell? ⟨(w.heap.size + 4), 9, none⟩ = some (.string ⟨ux.toArray⟩) := Hq_3.out.cell 9
        have cq_10 : w3.cell? ⟨(w.heap.size + 4), 10, none⟩ = some (.slice B ks.length cq) := Hq_3.out.cell 10
        go_wp2_with fail
        go_ret
        exact ⟨rfl, BW_3.out⟩
      obtain ⟨wu1, hu1⟩ : ∃ u, u = w.alloc (.cells (List.toArray ((.int .i64 m1) :: (.int .i64 m2) :: (.int .i64 m3) :: (.int .i64 m4) :: (.int .i64 m5) :: (.int .i64 m6) :: (.int .i64 k1) :: (.int .i64 k2) :: (.int .i64 k3) :: (.int .i64 k4) :: (.int .i64 k5) :: (.string ⟨t1.toArray⟩) :: (.string ⟨t2.toArray⟩) :: (.string ⟨t3.toArray⟩) :: (.int .i64 n1) :: (.int .i64 n2) :: (.int .i64 n3) :: (.int .i64 n4) :: (.int .i64 n5) :: (.int .i64 n6) :: (.int .i64 l1) :: (.int .i64 l2) :: (.int .i64 l3) :: (.int .i64 l4) :: (.int .i64 l5) :: (.string ⟨u1.toArray⟩) :: (.string ⟨u2.toArray⟩) :: (.string ⟨u3.toArray⟩) :: (.int .i64 r1) :: (.int .i64 r2) :: (.int .i64 r3) :: (.int .i64 r4) :: (.int .i64 r5) :: (.int .i64 r6) :: (.int .i64 r7) :: (.int .i64 r8) :: (.int .i64 r9) :: (.string ⟨tx.toArray⟩) :: (.slice A ls.length cp) :: (.int .i64 q1) :: (.int .i64 q2) :: (.int .i64 q3) :: (.int .i64 q4) :: (.int .i64 q5) :: (.int .i64 q6) :: (.int .i64 q7) :: (.int .i64 q8) :: (.int .i64 q9) :: (.string ⟨ux.toArray⟩) :: (.slice B ks.length cq) :: [])) 59) := ⟨_, rfl⟩
      have su1 : wu1.heap.size = w.heap.size + 1 := by rw [hu1]; simp
      have tu1 : TBox wu1 (w.heap.size) 59 (List.toArray ((.int .i64 m1) :: (.int .i64 m2) :: (.int .i64 m3) :: (.int .i64 m4) :: (.int .i64 m5) :: (.int .i64 m6) :: (.int .i64 k1) :: (.int .i64 k2) :: (.int .i64 k3) :: (.int .i64 k4) :: (.int .i64 k5) :: (.string ⟨t1.toArray⟩) :: (.string ⟨t2.toArray⟩) :: (.string ⟨t3.toArray⟩) :: (.int .i64 n1) :: (.int .i64 n2) :: (.int .i64 n3) :: (.int .i64 n4) :: (.int .i64 n5) :: (.int .i64 n6) :: (.int .i64 l1) :: (.int .i64 l2) :: (.int .i64 l3) :: (.int .i64 l4) :: (.int .i64 l5) :: (.string ⟨u1.toArray⟩) :: (.string ⟨u2.toArray⟩) :: (.string ⟨u3.toArray⟩) :: (.int .i64 r1) :: (.int .i64 r2) :: (.int .i64 r3) :: (.int .i64 r4) :: (.int .i64 r5) :: (.int .i64 r6) :: (.int .i64 r7) :: (.int .i64 r8) :: (.int .i64 r9) :: (.string ⟨tx.toArray⟩) :: (.slice A ls.length cp) :: (.int .i64 q1) :: (.int .i64 q2) :: (.int .i64 q3) :: (.int .i64 q4) :: (.int .i64 q5) :: (.int .i64 q6) :: (.int .i64 q7) :: (.int .i64 q8) :: (.int .i64 q9) :: (.string ⟨ux.toArray⟩) :: (.slice B ks.length cq) :: [])) := by rw [hu1]; exact TBox.new _ _ _
      have bu1 : Below w.heap.size w wu1 := by rw [hu1]; exact (Below.refl _ _).alloc (Nat.le_refl _) _
      have BU1 := bu1
      obtain ⟨wu2, hu2⟩ : ∃ u, u = wu1.alloc (.cells #[.int .i64 m1, .int .i64 m2, .int .i64 m3, .int .i64 m4, .int .i64 m5, .int .i64 m6, .int .i64 k1, .int .i64 k2, .int .i64 k3, .int .i64 k4, .int .i64 k5, .string ⟨t1.toArray⟩, .string ⟨t2.toArray⟩, .string ⟨t3.toArray⟩] 25) := ⟨_, rfl⟩
      have su2 : wu2.heap.size = w.heap.size + 2 := by rw [hu2]; simp [su1]
      have tu2 : TBox wu2 (w.heap.size + 1) 25 #[.int .i64 m1, .int .i64 m2, .int .i64 m3, .int .i64 m4, .int .i64 m5, .int .i64 m6, .int .i64 k1, .int .i64 k2, .int .i64 k3, .int .i64 k4, .int .i64 k5, .string ⟨t1.toArray⟩, .string ⟨t2.toArray⟩, .string ⟨t3.toArray⟩] := by rw [hu2, ← su1]; exact TBox.new _ _ _
      have bu2 : Below wu1.heap.size wu1 wu2 := by rw [hu2]; exact (Below.refl _ _).alloc (Nat.le_refl _) _
      have BU2 := below_trans BU1 bu2 BU1.size
      obtain ⟨wu3, hu3⟩ : ∃ u, u = wu2.alloc (.cells #[.int .i64 n1, .int .i64 n2, .int .i64 n3, .int .i64 n4, .int .i64 n5, .int .i64 n6, .int .i64 l1, .int .i64 l2, .int .i64 l3, .int .i64 l4, .int .i64 l5, .string ⟨u1.toArray⟩, .string ⟨u2.toArray⟩, .string ⟨u3.toArray⟩] 25) := ⟨_, rfl⟩
      have su3 : wu3.heap.size = w.heap.size + 3 := by rw [hu3]; simp [su2]
      have tu3 : TBox wu3 (w.heap.size + 2) 25 #[.int .i64 n1, .int .i64 n2, .int .i64 n3, .int .i64 n4, .int .i64 n5, .int .i64 n6, .int .i64 l1, .int .i64 l2, .int .i64 l3, .int .i64 l4, .int .i64 l5, .string ⟨u1.toArray⟩, .string ⟨u2.toArray⟩, .string ⟨u3.toArray⟩] := by rw [hu3, ← su2]; exact TBox.new _ _ _
      have bu3 : Below wu2.heap.size wu2 wu3 := by rw [hu3]; exact (Below.refl _ _).alloc (Nat.le_refl _) _
      have BU3 := below_trans BU2 bu3 BU2.size
      obtain ⟨wu4, hu4⟩ : ∃ u, u = wu3.alloc (.cells #[.int .i64 r1, .int .i64 r2, .int .i64 r3, .int .i64 r4, .int .i64 r5, .int .i64 r6, .int .i64 r7, .int .i64 r8, .int .i64 r9, .string ⟨tx.toArray⟩, .slice A ls.length cp] 31) := ⟨_, rfl⟩
      have su4 : wu4.heap.size = w.heap.size + 4 := by rw [hu4]; simp [su3]
      have tu4 : TBox wu4 (w.heap.size + 3) 31 #[.int .i64 r1, .int .i64 r2, .int .i64 r3, .int .i64 r4, .int .i64 r5, .int .i64 r6, .int .i64 r7, .int .i64 r8, .int .i64 r9, .string ⟨tx.toArray⟩, .slice A ls.length cp] := by rw [hu4, ← su3]; exact TBox.new _ _ _
      have bu4 : Below wu3.heap.size wu3 wu4 := by rw [hu4]; exact (Below.refl _ _).alloc (Nat.le_refl _) _
      have BU4 := below_trans BU3 bu4 BU3.size
      obtain ⟨wu5, hu5⟩ : ∃ u, u = wu4.alloc (.cells #[.int .i64 q1, .int .i64 q2, .int .i64 q3, .int .i64 q4, .int .i64 q5, .int .i64 q6, .int .i64 q7, .int .i64 q8, .int .i64 q9, .string ⟨ux.toArray⟩, .slice B ks.length cq] 31) := ⟨_, rfl⟩
      have su5 : wu5.heap.size = w.heap.size + 5 := by rw [hu5]; simp [su4]
      have tu5 : TBox wu5 (w.heap.size + 4) 31 #[.int .i64 q1, .int .i64 q2, .int .i64 q3, .int .i64 q4, .int .i64 q5, .int .i64 q6, .int .i64 q7, .int .i64 q8, .int .i64 q9, .string ⟨ux.toArray⟩, .slice B ks.length cq] := by rw [hu5, ← su4]; exact TBox.new _ _ _
      have bu5 : Below wu4.heap.size wu4 wu5 := by rw [hu5]; exact (Below.refl _ _).alloc (Nat.le_refl _) _
      have BU5 := below_trans BU4 bu5 BU4.size
      have Hs0 := Lib.hid ((((tu1.below bu2).below bu3).below bu4).below bu5)
      have Ha0 := Lib.hid (((tu2.below bu3).below bu4).below bu5)
      have Hb0 := Lib.hid ((tu3.below bu4).below bu5)
      have Hr0 := Lib.hid (tu4.below bu5)
      have Hq0 := Lib.hid tu5
      have BW_0 := Lib.hid BU5
      have HW : Hid (wu5 = (((((w.alloc (.cells (List.toArray ((.int .i64 m1) :: (.int .i64 m2) :: (.int .i64 m3) :: (.int .i64 m4) :: (.int .i64 m5) :: (.int .i64 m6) :: (.int .i64 k1) :: (.int .i64 k2) :: (.int .i64 k3) :: (.int .i64 k4) :: (.int .i64 k5) :: (.string ⟨t1.toArray⟩) :: (.string ⟨t2.toArray⟩) :: (.string ⟨t3.toArray⟩) :: (.int .i64 n1) :: (.int .i64 n2) :: (.int .i64 n3) :: (.int .i64 n4) :: (.int .i64 n5) :: (.int .i64 n6) :: (.int .i64 l1) :: (.int .i64 l2) :: (.int .i64 l3) :: (.int .i64 l4) :: (.int .i64 l5) :: (.string ⟨u1.toArray⟩) :: (.string ⟨u2.toArray⟩) :: (.string ⟨u3.toArray⟩) :: (.int .i64 r1) :: (.int .i64 r2) :: (.int .i64 r3) :: (.int .i64 r4) :: (.int .i64 r5) :: (.int .i64 r6) :: (.int .i64 r7) :: (.int .i64 r8) :: (.int .i64 r9) :: (.string ⟨tx.toArray⟩) :: (.slice A ls.length cp) :: (.int .i64 q1) :: (.int .i64 q2) :: (.int .i64 q3) :: (.int .i64 q4) :: (.int .i64 q5) :: (.int .i64 q6) :: (.int .i64 q7) :: (.int .i64 q8) :: (.int .i64 q9) :: (.string ⟨ux.toArray⟩) :: (.slice B ks.length cq) :: [])) 59)).alloc (.cells #[.int .i64 m1, .int .i64 m2, .int .i64 m3, .int .i64 m4, .int .i64 m5, .int .i64 m6, .int .i64 k1, .int .i64 k2, .int .i64 k3, .int .i64 k4, .int .i64 k5, .string ⟨t1.toArray⟩, .string ⟨t2.toArray⟩, .string ⟨t3.toArray⟩] 25)).alloc (.cells #[.int .i64 n1, .int .i64 n2, .int .i64 n3, .int .i64 n4, .int .i64 n5, .int .i64 n6, .int .i64 l1, .int .i64 l2, .int .i64 l3, .int .i64 l4, .int .i64 l5, .string ⟨u1.toArray⟩, .string ⟨u2.toArray⟩, .string ⟨u3.toArray⟩] 25)).alloc (.cells #[.int .i64 r1, .int .i64 r2, .int .i64 r3, .int .i64 r4, .int .i64 r5, .int .i64 r6, .int .i64 r7, .int .i64 r8, .int .i64 r9, .string ⟨tx.toArray⟩, .slice A ls.length cp] 31)).alloc (.cells #[.int .i64 q1, .int .i64 q2, .int .i64 q3, .int .i64 q4, .int .i64 q5, .int .i64 q6, .int .i64 q7, .int .i64 q8, .int .i64 q9, .string ⟨ux.toArray⟩, .slice B ks.length cq] 31))) := Lib.hid (by rw [hu5, hu4, hu3, hu2, hu1])
      have HSZ := Lib.hid su5
      obtain ⟨W0, hW0⟩ : ∃ u, u = wu5 := ⟨_, rfl⟩
      rw [← hW0] at Hs0 Ha0 Hb0 Hr0 Hq0 BW_0 HW HSZ
      clear hW0 hu1 su1 tu1 bu1 BU1 hu2 su2 tu2 bu2 BU2 hu3 su3 tu3 bu3 BU3 hu4 su4 tu4 bu4 BU4 hu5 su5 tu5 bu5 BU5
      have Rr0 := Lib.hid (hrow.below BW_0.out)
      have Rq0 := Lib.hid (krow.below BW_0.out)
      clear hrow krow
      go_enter Try.func8, Try.ntmps8
      go_wp2_with fail
      rw [← HW.out]
      refine (law_shown _).mono ?_
      rintro e w1 ⟨rfl, hb⟩
      have Ha_1 := Lib.hid (Ha0.out.below hb)
      have Hb_1 := Lib.hid (Hb0.out.below hb)
      have Hr_1 := Lib.hid (Hr0.out.below hb)
      have Hq_1 := Lib.hid (Hq0.out.below hb)
      have Rr_1 := Lib.hid (Rr0.out.below hb)
      have Rq_1 := Lib.hid (Rq0.out.below hb)
      have BW_1 := Lib.hid (below_trans BW_0.out hb BW_0.out.size)
      clear hb 
      have ca_0 : w1.cell? ⟨(w.heap.size + 1), 0, none⟩ = some (.int .i64 m1) := Ha_1.out.cell 0
      have ca_1 : w1.cell? ⟨(w.heap.size + 1), 1, none⟩ = some (.int .i64 m2) := Ha_1.out.cell 1
      have ca_2 : w1.cell? ⟨(w.heap.size + 1), 2, none⟩ = some (.int .i64 m3) := Ha_1.out.cell 2
      have ca_3 : w1.cell? ⟨(w.heap.size + 1), 3, none⟩ = some (.int .i64 m4) := Ha_1.out.cell 3
      have ca_4 : w1.cell? ⟨(w.heap.size + 1), 4, none⟩ = some (.int .i64 m5) := Ha_1.out.cell 4
      have ca_5 : w1.cell? ⟨(w.heap.size + 1), 5, none⟩ = some (.int .i64 m6) := Ha_1.out.cell 5
      have ca_6 : w1.cell? ⟨(w.heap.size + 1), 6, none⟩ = some (.int .i64 k1) := Ha_1.out.cell 6
      have ca_7 : w1.cell? ⟨(w.heap.size + 1), 7, none⟩ = some (.int .i64 k2) := Ha_1.out.cell 7
      have ca_8 : w1.cell? ⟨(w.heap.size + 1), 8, none⟩ = some (.int .i64 k3) := Ha_1.out.cell 8
      have ca_9 : w1.cell? ⟨(w.heap.size + 1), 9, none⟩ = some (.int .i64 k4) := Ha_1.out.cell 9
      have ca_10 : w1.cell? ⟨(w.heap.size + 1), 10, none⟩ = some (.int .i64 k5) := Ha_1.out.cell 10
      have ca_11 : w1.cell? ⟨(w.heap.size + 1), 11, none⟩ = some (.string ⟨t1.toArray⟩) := Ha_1.out.cell 11
      have ca_12 : w1.cell? ⟨(w.heap.size + 1), 12, none⟩ = some (.string ⟨t2.toArray⟩) := Ha_1.out.cell 12
      have ca_13 : w1.cell? ⟨(w.heap.size + 1), 13, none⟩ = some (.string ⟨t3.toArray⟩) := Ha_1.out.cell 13
      go_wp2_with fail
      refine (HSA.out _).mono ?_
      rintro e w2 ⟨rfl, hb⟩
      have Ha_2 := Lib.hid (Ha_1.out.below hb)
      have Hb_2 := Lib.hid (Hb_1.out.below hb)
      have Hr_2 := Lib.hid (Hr_1.out.below hb)
      have Hq_2 := Lib.hid (Hq_1.out.below hb)
      have Rr_2 := Lib.hid (Rr_1.out.below hb)
      have Rq_2 := Lib.hid (Rq_1.out.below hb)
      have BW_2 := Lib.hid (below_trans BW_1.out hb BW_1.out.size)
      rw [HA.out]
      clear hb 
      clear ca_0 ca_1 ca_2 ca_3 ca_4 ca_5 ca_6 ca_7 ca_8 ca_9 ca_10 ca_11 ca_12 ca_13
      have cb_0 : w2.cell? ⟨(w.heap.size + 2), 0, none⟩ = some (.int .i64 n1) := Hb_2.out.cell 0
      have cb_1 : w2.cell? ⟨(w.heap.size + 2), 1, none⟩ = some (.int .i64 n2) := Hb_2.out.cell 1
      have cb_2 : w2.cell? ⟨(w.heap.size + 2), 2, none⟩ = some (.int .i64 n3) := Hb_2.out.cell 2
      have cb_3 : w2.cell? ⟨(w.heap.size + 2), 3, none⟩ = some (.int .i64 n4) := Hb_2.out.cell 3
      have cb_4 : w2.cell? ⟨(w.heap.size + 2), 4, none⟩ = some (.int .i64 n5) := Hb_2.out.cell 4
      have cb_5 : w2.cell? ⟨(w.heap.size + 2), 5, none⟩ = some (.int .i64 n6) := Hb_2.out.cell 5
      have cb_6 : w2.cell? ⟨(w.heap.size + 2), 6, none⟩ = some (.int .i64 l1) := Hb_2.out.cell 6
      have cb_7 : w2.cell? ⟨(w.heap.size + 2), 7, none⟩ = some (.int .i64 l2) := Hb_2.out.cell 7
      have cb_8 : w2.cell? ⟨(w.heap.size + 2), 8, none⟩ = some (.int .i64 l3) := Hb_2.out.cell 8
      have cb_9 : w2.cell? ⟨(w.heap.size + 2), 9, none⟩ = some (.int .i64 l4) := Hb_2.out.cell 9
      have cb_10 : w2.cell? ⟨(w.heap.size + 2), 10, none⟩ = some (.int .i64 l5) := Hb_2.out.cell 10
      have cb_11 : w2.cell? ⟨(w.heap.size + 2), 11, none⟩ = some (.string ⟨u1.toArray⟩) := Hb_2.out.cell 11
      have cb_12 : w2.cell? ⟨(w.heap.size + 2), 12, none⟩ = some (.string ⟨u2.toArray⟩) := Hb_2.out.cell 12
      have cb_13 : w2.cell? ⟨(w.heap.size + 2), 13, none⟩ = some (.string ⟨u3.toArray⟩) := Hb_2.out.cell 13
      go_wp2_with fail
      refine (HSB.out _).mono ?_
      rintro e w3 ⟨rfl, hb⟩
      have Ha_3 := Lib.hid (Ha_2.out.below hb)
      have Hb_3 := Lib.hid (Hb_2.out.below hb)
      have Hr_3 := Lib.hid (Hr_2.out.below hb)
      have Hq_3 := Lib.hid (Hq_2.out.below hb)
      have Rr_3 := Lib.hid (Rr_2.out.below hb)
      have Rq_3 := Lib.hid (Rq_2.out.below hb)
      have BW_3 := Lib.hid (below_trans BW_2.out hb BW_2.out.size)
      rw [HB.out]
      clear hb 
      clear cb_0 cb_1 cb_2 cb_3 cb_4 cb_5 cb_6 cb_7 cb_8 cb_9 cb_10 cb_11 cb_12 cb_13
      have cr_0 : w3.cell? ⟨(w.heap.size + 3), 0, none⟩ = some (.int .i64 r1) := Hr_3.out.cell 0
      have cr_1 : w3.cell? ⟨(w.heap.size + 3), 1, none⟩ = some (.int .i64 r2) := Hr_3.out.cell 1
      have cr_2 : w3.cell? ⟨(w.heap.size + 3), 2, none⟩ = some (.int .i64 r3) := Hr_3.out.cell 2
      have cr_3 : w3.cell? ⟨(w.heap.size + 3), 3, none⟩ = some (.int .i64 r4) := Hr_3.out.cell 3
      have cr_4 : w3.cell? ⟨(w.heap.size + 3), 4, none⟩ = some (.int .i64 r5) := Hr_3.out.cell 4
      have cr_5 : w3.cell? ⟨(w.heap.size + 3), 5, none⟩ = some (.int .i64 r6) := Hr_3.out.cell 5
      have cr_6 : w3.cell? ⟨(w.heap.size + 3), 6, none⟩ = some (.int .i64 r7) := Hr_3.out.cell 6
      have cr_7 : w3.cell? ⟨(w.heap.size + 3), 7, none⟩ = some (.int .i64 r8) := Hr_3.out.cell 7
      have cr_8 : w3.cell? ⟨(w.heap.size + 3), 8, none⟩ = some (.int .i64 r9) := Hr_3.out.cell 8
      have cr_9 : w3.cell? ⟨(w.heap.size + 3), 9, none⟩ = some (.string ⟨tx.toArray⟩) := Hr_3.out.cell 9
      have cr_10 : w3.cell? ⟨(w.heap.size + 3), 10, none⟩ = some (.slice A ls.length cp) := Hr_3.out.cell 10
      have cq_0 : w3.cell? ⟨(w.heap.size + 4), 0, none⟩ = some (.int .i64 q1) := Hq_3.out.cell 0
      have cq_1 : w3.cell? ⟨(w.heap.size + 4), 1, none⟩ = some (.int .i64 q2) := Hq_3.out.cell 1
      have cq_2 : w3.cell? ⟨(w.heap.size + 4), 2, none⟩ = some (.int .i64 q3) := Hq_3.out.cell 2
      have cq_3 : w3.cell? ⟨(w.heap.size + 4), 3, none⟩ = some (.int .i64 q4) := Hq_3.out.cell 3
      have cq_4 : w3.cell? ⟨(w.heap.size + 4), 4, none⟩ = some (.int .i64 q5) := Hq_3.out.cell 4
      have cq_5 : w3.cell? ⟨(w.heap.size + 4), 5, none⟩ = some (.int .i64 q6) := Hq_3.out.cell 5
      have cq_6 : w3.cell? ⟨(w.heap.size + 4), 6, none⟩ = some (.int .i64 q7) := Hq_3.out.cell 6
      have cq_7 : w3.cell? ⟨(w.heap.size + 4), 7, none⟩ = some (.int .i64 q8) := Hq_3.out.cell 7
      have cq_8 : w3.cell? ⟨(w.heap.size + 4), 8, none⟩ = some (.int .i64 q9) := Hq_3.out.cell 8
      have cq_9 : w3.cell? ⟨(w.heap.size + 4), 9, none⟩ = some (.string ⟨ux.toArray⟩) := Hq_3.out.cell 9
      have cq_10 : w3.cell? ⟨(w.heap.size + 4), 10, none⟩ = some (.slice B ks.length cq) := Hq_3.out.cell 10
      go_wp2_with fail
      go_loop [8, 9] (fun n i => ∃ k : Nat, k ≤ ls.length ∧ i = .int .i64 k ∧ n = .int .i64 ((sumK ls k : Nat) : Int)) (fun _ i => ls.length - (intOf i).toNat)
      case atStart => exact ⟨0, Nat.zero_le _, rfl, rfl⟩
      case round =>
        obtain ⟨k, hk, rfl, rfl⟩ := hrel
        have hb := sumK_le ls k _ hlz
        by_cases hlt : k < ls.length
        · obtain ⟨b, off, he, hbk, _, hcs⟩ := Rr_3.out.at k (x := strV ls[k]) (by simp [hlt])
          subst he
          have hc : w3.cell? ⟨b, off + k, none⟩ = some (.string ⟨(ls[k]).toArray⟩) := hcs k (strV ls[k]) (by simp [hlt])
          have hx := hlz ls[k] (List.getElem_mem hlt)
          have hst := sumK_step ls k hlt
          have HST := Lib.hid hst
          clear hcs hst
          generalize ls[k] = x at *
          generalize hsk : sumK ls k = sk at *
          have HSK := Lib.hid hsk
          clear hsk
          go_wp2_with fail
          go_round
          case rel => exact ⟨k + 1, by omega, by go_num, by rw [HST.out]; go_num⟩
          case measure => simp [intOf]; omega
        · obtain rfl : k = ls.length := by omega
          have hs1 := sumK_all ls
          generalize sumK ls ls.length = s1 at *
          have HS1 := Lib.hid hs1
          clear hs1 hlt
          go_wp2_with fail
          go_loop [8, 10] (fun n i => ∃ k : Nat, k ≤ ks.length ∧ i = .int .i64 k ∧ n = .int .i64 ((s1 + sumK ks k : Nat) : Int)) (fun _ i => ks.length - (intOf i).toNat)
          case atStart => exact ⟨0, Nat.zero_le _, rfl, by simp [sumK]⟩
          case round =>
            obtain ⟨k, hk, rfl, rfl⟩ := hrel
            have hb := sumK_le ks k _ hkz
            by_cases hlt : k < ks.length
            · obtain ⟨b, off, he, hbk, _, hcs⟩ := Rq_3.out.at k (x := strV ks[k]) (by simp [hlt])
              subst he
              have hc : w3.cell? ⟨b, off + k, none⟩ = some (.string ⟨(ks[k]).toArray⟩) := hcs k (strV ks[k]) (by simp [hlt])
              have hx := hkz ks[k] (List.getElem_mem hlt)
              have hst := sumK_step ks k hlt
              have HST := Lib.hid hst
              clear hcs hst
              generalize ks[k] = x at *
              generalize hsk : sumK ks k = sk at *
              have HSK := Lib.hid hsk
              clear hsk
              go_wp2_with fail
              go_round
              case rel => exact ⟨k + 1, by omega, by go_num, by rw [HST.out]; go_num⟩
              case measure => simp [intOf]; omega
            · obtain rfl : k = ks.length := by omega
              have hs2 := sumK_all ks
              generalize sumK ks ks.length = s2 at *
              have HS2 := Lib.hid hs2
              clear hs2 hlt
              by_cases hbig : 4000 < s1 + s2
              · have hbg : (4000 : Int) < ((s1 + s2 : Nat) : Int) := by omega
                go_wp2_with fail
                go_ret
                exact ⟨rfl, BW_3.out⟩
              have oka : OkM 4096 ⟨m1, m2, m3, m4, m5, m6, ⟨k1, k2, k3, k4, k5, t1, t2, t3⟩⟩ := ⟨HIM.out.1, (oa hsa).mono (by decide)⟩
              have okb : OkM 4096 ⟨n1, n2, n3, n4, n5, n6, ⟨l1, l2, l3, l4, l5, u1, u2, u3⟩⟩ := ⟨HIM.out.2, (ob hsb).mono (by decide)⟩
              have okr : OkR3 ⟨r1, r2, r3, r4, r5, r6, r7, r8, r9, tx, ls⟩ := ⟨HIR.out.1, by simp only; omega, by simp only; omega, fun l hl => by have h1 : l.length ≤ (ls.map List.length).sum := mem_sum hl; have := HS1.out; omega⟩
              have okq : OkR3 ⟨q1, q2, q3, q4, q5, q6, q7, q8, q9, ux, ks⟩ := ⟨HIR.out.2, by simp only; omega, by simp only; omega, fun l hl => by have h1 : l.length ≤ (ks.map List.length).sum := mem_sum hl; have := HS2.out; omega⟩
              have okr2 : OkR 1000000000 ⟨r1, r2, r3, r4, r5, r6, r7, r8, r9, tx, ls⟩ := ⟨HIR.out.1, by simp only; omega, by have := HS1.out; simp only; omega⟩
              have okq2 : OkR 1000000000 ⟨q1, q2, q3, q4, q5, q6, q7, q8, q9, ux, ks⟩ := ⟨HIR.out.2, by simp only; omega, by have := HS2.out; simp only; omega⟩
              have im := msg_inj oka okb
              have ir := rsp_inj okr okq
              have hMM : (msgB ⟨m1, m2, m3, m4, m5, m6, ⟨k1, k2, k3, k4, k5, t1, t2, t3⟩⟩ == msgB ⟨n1, n2, n3, n4, n5, n6, ⟨l1, l2, l3, l4, l5, u1, u2, u3⟩⟩) = sameM ⟨m1, m2, m3, m4, m5, m6, ⟨k1, k2, k3, k4, k5, t1, t2, t3⟩⟩ ⟨n1, n2, n3, n4, n5, n6, ⟨l1, l2, l3, l4, l5, u1, u2, u3⟩⟩ := by
                rw [Bool.eq_iff_iff, beq_iff_eq, sameM_iff]; exact im
              have hRR : (rspB ⟨r1, r2, r3, r4, r5, r6, r7, r8, r9, tx, ls⟩ == rspB ⟨q1, q2, q3, q4, q5, q6, q7, q8, q9, ux, ks⟩) = sameR ⟨r1, r2, r3, r4, r5, r6, r7, r8, r9, tx, ls⟩ ⟨q1, q2, q3, q4, q5, q6, q7, q8, q9, ux, ks⟩ := by
                rw [Bool.eq_iff_iff, beq_iff_eq, sameR_iff]; exact ir
              have HMa := Lib.hid (fun W => wire_Msg ⟨m1, m2, m3, m4, m5, m6, ⟨k1, k2, k3, k4, k5, t1, t2, t3⟩⟩ W ⟨HIM.out.1, (oa hsa).mono (by decide)⟩)
              have HMb := Lib.hid (fun W => wire_Msg ⟨n1, n2, n3, n4, n5, n6, ⟨l1, l2, l3, l4, l5, u1, u2, u3⟩⟩ W ⟨HIM.out.2, (ob hsb).mono (by decide)⟩)
              have HRa := Lib.hid (fun W v hv => wire_Rsp ⟨r1, r2, r3, r4, r5, r6, r7, r8, r9, tx, ls⟩ v W hv okr2)
              have HRb := Lib.hid (fun W v hv => wire_Rsp ⟨q1, q2, q3, q4, q5, q6, q7, q8, q9, ux, ks⟩ v W hv okq2)
              have HEQ := Lib.hid (fun W => eql_msg m1 m2 m3 m4 m5 m6 k1 k2 k3 k4 k5 n1 n2 n3 n4 n5 n6 l1 l2 l3 l4 l5 t1 t2 t3 u1 u2 u3 W)
              have HS := Lib.hid (fun vx vy W hx hy => ref15_Same ⟨r1, r2, r3, r4, r5, r6, r7, r8, r9, tx, ls⟩ ⟨q1, q2, q3, q4, q5, q6, q7, q8, q9, ux, ks⟩ vx vy W hx hy (by simp only; omega) (by simp only; omega))
              generalize msgB ⟨m1, m2, m3, m4, m5, m6, ⟨k1, k2, k3, k4, k5, t1, t2, t3⟩⟩ = MA at *
              generalize msgB ⟨n1, n2, n3, n4, n5, n6, ⟨l1, l2, l3, l4, l5, u1, u2, u3⟩⟩ = MB at *
              generalize rspB ⟨r1, r2, r3, r4, r5, r6, r7, r8, r9, tx, ls⟩ = RA at *
              generalize rspB ⟨q1, q2, q3, q4, q5, q6, q7, q8, q9, ux, ks⟩ = RB at *
              generalize sameM ⟨m1, m2, m3, m4, m5, m6, ⟨k1, k2, k3, k4, k5, t1, t2, t3⟩⟩ ⟨n1, n2, n3, n4, n5, n6, ⟨l1, l2, l3, l4, l5, u1, u2, u3⟩⟩ = bm at *
              generalize sameR ⟨r1, r2, r3, r4, r5, r6, r7, r8, r9, tx, ls⟩ ⟨q1, q2, q3, q4, q5, q6, q7, q8, q9, ux, ks⟩ = br at *
              unfold RspV at HRa HRb HS
              simp only [msgV, msgCells, rspCells] at HMa HMb HRa HRb HS
              have HMM := Lib.hid hMM
              have HRR := Lib.hid hRR
              clear hMM hRR im ir okr okq okr2 okq2 oka okb oa ob hlz hkz hsa hsb
              go_wp2_with fail
              refine (HS.out _ _ _ ⟨A, cp, rfl, Rr_3.out⟩ ⟨B, cq, rfl, Rq_3.out⟩).mono ?_
              rintro e w4 ⟨rfl, hb⟩
              have Ha_4 := Lib.hid (Ha_3.out.below hb)
              have Hb_4 := Lib.hid (Hb_3.out.below hb)
              have Hr_4 := Lib.hid (Hr_3.out.below hb)
              have Hq_4 := Lib.hid (Hq_3.out.below hb)
              have Rr_4 := Lib.hid (Rr_3.out.below hb)
              have Rq_4 := Lib.hid (Rq_3.out.below hb)
              have BW_4 := Lib.hid (below_trans BW_3.out hb BW_3.out.size)
              clear hb cr_0 cr_1 cr_2 cr_3 cr_4 cr_5 cr_6 cr_7 cr_8 cr_9 cr_10 cq_0 cq_1 cq_2 cq_3 cq_4 cq_5 cq_6 cq_7 cq_8 cq_9 cq_10
              go_wp2_with fail
              refine wp_region_held_drew (S := fun V => Below w4.heap.size w4 V) (by kernel_rfl) (below_dn (Below.refl _ _) 1) (fun hHeld => ?_)
              refine wpAnyH_take (i := 0) (v := ?_) rfl (by kernel_rfl) (by kernel_rfl) (by kernel_rfl) (fun _ _ _ h => h) (Or.inl ⟨by rfl, ?_⟩) (by assumption) ?_
              rotate_left
              · intro X hSw
                go_simp
                try with_reducible rfl
              rotate_left
              try simp only [Act.put, List.setIfInBounds_toArray, List.set_cons_zero, List.set_cons_succ, List.getElem_toArray, List.getElem_cons_zero, List.getElem_cons_succ]
              refine wpAnyH_take (i := 1) (v := ?_) rfl (by kernel_rfl) (by kernel_rfl) (by kernel_rfl) (fun _ _ _ h => h) (Or.inl ⟨by rfl, ?_⟩) (by assumption) ?_
              rotate_left
              · intro X hSw
                go_simp
                try with_reducible rfl
              rotate_left
              try simp only [Act.put, List.setIfInBounds_toArray, List.set_cons_zero, List.set_cons_succ, List.getElem_toArray, List.getElem_cons_zero, List.getElem_cons_succ]
              refine wpAnyH_take (i := 2) (v := ?_) rfl (by kernel_rfl) (by kernel_rfl) (by kernel_rfl) (fun _ _ _ h => h) (Or.inl ⟨by rfl, ?_⟩) (by assumption) ?_
              rotate_left
              · intro X hSw
                have hc0 : X.cell? ⟨(w.heap.size + 1), 0, none⟩ = some (.int .i64 m1) := (Ha_4.out.below hSw).cell 0
                have hc1 : X.cell? ⟨(w.heap.size + 1), 1, none⟩ = some (.int .i64 m2) := (Ha_4.out.below hSw).cell 1
                have hc2 : X.cell? ⟨(w.heap.size + 1), 2, none⟩ = some (.int .i64 m3) := (Ha_4.out.below hSw).cell 2
                have hc3 : X.cell? ⟨(w.heap.size + 1), 3, none⟩ = some (.int .i64 m4) := (Ha_4.out.below hSw).cell 3
                have hc4 : X.cell? ⟨(w.heap.size + 1), 4, none⟩ = some (.int .i64 m5) := (Ha_4.out.below hSw).cell 4
                have hc5 : X.cell? ⟨(w.heap.size + 1), 5, none⟩ = some (.int .i64 m6) := (Ha_4.out.below hSw).cell 5
                have hc6 : X.cell? ⟨(w.heap.size + 1), 6, none⟩ = some (.int .i64 k1) := (Ha_4.out.below hSw).cell 6
                have hc7 : X.cell? ⟨(w.heap.size + 1), 7, none⟩ = some (.int .i64 k2) := (Ha_4.out.below hSw).cell 7
                have hc8 : X.cell? ⟨(w.heap.size + 1), 8, none⟩ = some (.int .i64 k3) := (Ha_4.out.below hSw).cell 8
                have hc9 : X.cell? ⟨(w.heap.size + 1), 9, none⟩ = some (.int .i64 k4) := (Ha_4.out.below hSw).cell 9
                have hc10 : X.cell? ⟨(w.heap.size + 1), 10, none⟩ = some (.int .i64 k5) := (Ha_4.out.below hSw).cell 10
                have hc11 : X.cell? ⟨(w.heap.size + 1), 11, none⟩ = some (.string ⟨t1.toArray⟩) := (Ha_4.out.below hSw).cell 11
                have hc12 : X.cell? ⟨(w.heap.size + 1), 12, none⟩ = some (.string ⟨t2.toArray⟩) := (Ha_4.out.below hSw).cell 12
                have hc13 : X.cell? ⟨(w.heap.size + 1), 13, none⟩ = some (.string ⟨t3.toArray⟩) := (Ha_4.out.below hSw).cell 13
                go_simp
                try with_reducible rfl
              rotate_left
              try simp only [Act.put, List.setIfInBounds_toArray, List.set_cons_zero, List.set_cons_succ, List.getElem_toArray, List.getElem_cons_zero, List.getElem_cons_succ]
              refine wpAnyH_take (i := 4) (v := ?_) rfl (by kernel_rfl) (by kernel_rfl) (by kernel_rfl) (fun _ _ _ h => h) (Or.inl ⟨by rfl, ?_⟩) (by assumption) ?_
              rotate_left
              · intro X hSw
                have hc0 : X.cell? ⟨(w.heap.size + 2), 0, none⟩ = some (.int .i64 n1) := (Hb_4.out.below hSw).cell 0
                have hc1 : X.cell? ⟨(w.heap.size + 2), 1, none⟩ = some (.int .i64 n2) := (Hb_4.out.below hSw).cell 1
                have hc2 : X.cell? ⟨(w.heap.size + 2), 2, none⟩ = some (.int .i64 n3) := (Hb_4.out.below hSw).cell 2
                have hc3 : X.cell? ⟨(w.heap.size + 2), 3, none⟩ = some (.int .i64 n4) := (Hb_4.out.below hSw).cell 3
                have hc4 : X.cell? ⟨(w.heap.size + 2), 4, none⟩ = some (.int .i64 n5) := (Hb_4.out.below hSw).cell 4
                have hc5 : X.cell? ⟨(w.heap.size + 2), 5, none⟩ = some (.int .i64 n6) := (Hb_4.out.below hSw).cell 5
                have hc6 : X.cell? ⟨(w.heap.size + 2), 6, none⟩ = some (.int .i64 l1) := (Hb_4.out.below hSw).cell 6
                have hc7 : X.cell? ⟨(w.heap.size + 2), 7, none⟩ = some (.int .i64 l2) := (Hb_4.out.below hSw).cell 7
                have hc8 : X.cell? ⟨(w.heap.size + 2), 8, none⟩ = some (.int .i64 l3) := (Hb_4.out.below hSw).cell 8
                have hc9 : X.cell? ⟨(w.heap.size + 2), 9, none⟩ = some (.int .i64 l4) := (Hb_4.out.below hSw).cell 9
                have hc10 : X.cell? ⟨(w.heap.size + 2), 10, none⟩ = some (.int .i64 l5) := (Hb_4.out.below hSw).cell 10
                have hc11 : X.cell? ⟨(w.heap.size + 2), 11, none⟩ = some (.string ⟨u1.toArray⟩) := (Hb_4.out.below hSw).cell 11
                have hc12 : X.cell? ⟨(w.heap.size + 2), 12, none⟩ = some (.string ⟨u2.toArray⟩) := (Hb_4.out.below hSw).cell 12
                have hc13 : X.cell? ⟨(w.heap.size + 2), 13, none⟩ = some (.string ⟨u3.toArray⟩) := (Hb_4.out.below hSw).cell 13
                go_simp
                try with_reducible rfl
              rotate_left
              try simp only [Act.put, List.setIfInBounds_toArray, List.set_cons_zero, List.set_cons_succ, List.getElem_toArray, List.getElem_cons_zero, List.getElem_cons_succ]
              refine wpAnyH_take (i := 7) (v := ?_) rfl (by kernel_rfl) (by kernel_rfl) (by kernel_rfl) (fun _ _ _ h => h) (Or.inl ⟨by rfl, ?_⟩) (by assumption) ?_
              rotate_left
              · intro X hSw
                have hc0 : X.cell? ⟨(w.heap.size + 1), 0, none⟩ = some (.int .i64 m1) := (Ha_4.out.below hSw).cell 0
                have hc1 : X.cell? ⟨(w.heap.size + 1), 1, none⟩ = some (.int .i64 m2) := (Ha_4.out.below hSw).cell 1
                have hc2 : X.cell? ⟨(w.heap.size + 1), 2, none⟩ = some (.int .i64 m3) := (Ha_4.out.below hSw).cell 2
                have hc3 : X.cell? ⟨(w.heap.size + 1), 3, none⟩ = some (.int .i64 m4) := (Ha_4.out.below hSw).cell 3
                have hc4 : X.cell? ⟨(w.heap.size + 1), 4, none⟩ = some (.int .i64 m5) := (Ha_4.out.below hSw).cell 4
                have hc5 : X.cell? ⟨(w.heap.size + 1), 5, none⟩ = some (.int .i64 m6) := (Ha_4.out.below hSw).cell 5
                have hc6 : X.cell? ⟨(w.heap.size + 1), 6, none⟩ = some (.int .i64 k1) := (Ha_4.out.below hSw).cell 6
                have hc7 : X.cell? ⟨(w.heap.size + 1), 7, none⟩ = some (.int .i64 k2) := (Ha_4.out.below hSw).cell 7
                have hc8 : X.cell? ⟨(w.heap.size + 1), 8, none⟩ = some (.int .i64 k3) := (Ha_4.out.below hSw).cell 8
                have hc9 : X.cell? ⟨(w.heap.size + 1), 9, none⟩ = some (.int .i64 k4) := (Ha_4.out.below hSw).cell 9
                have hc10 : X.cell? ⟨(w.heap.size + 1), 10, none⟩ = some (.int .i64 k5) := (Ha_4.out.below hSw).cell 10
                have hc11 : X.cell? ⟨(w.heap.size + 1), 11, none⟩ = some (.string ⟨t1.toArray⟩) := (Ha_4.out.below hSw).cell 11
                have hc12 : X.cell? ⟨(w.heap.size + 1), 12, none⟩ = some (.string ⟨t2.toArray⟩) := (Ha_4.out.below hSw).cell 12
                have hc13 : X.cell? ⟨(w.heap.size + 1), 13, none⟩ = some (.string ⟨t3.toArray⟩) := (Ha_4.out.below hSw).cell 13
                go_simp
                try with_reducible rfl
              rotate_left
              try simp only [Act.put, List.setIfInBounds_toArray, List.set_cons_zero, List.set_cons_succ, List.getElem_toArray, List.getElem_cons_zero, List.getElem_cons_succ]
              refine wpAnyH_take (i := 8) (v := ?_) rfl (by kernel_rfl) (by kernel_rfl) (by kernel_rfl) (fun _ _ _ h => h) (Or.inl ⟨by rfl, ?_⟩) (by assumption) ?_
              rotate_left
              · intro X hSw
                have hc0 : X.cell? ⟨(w.heap.size + 2), 0, none⟩ = some (.int .i64 n1) := (Hb_4.out.below hSw).cell 0
                have hc1 : X.cell? ⟨(w.heap.size + 2), 1, none⟩ = some (.int .i64 n2) := (Hb_4.out.below hSw).cell 1
                have hc2 : X.cell? ⟨(w.heap.size + 2), 2, none⟩ = some (.int .i64 n3) := (Hb_4.out.below hSw).cell 2
                have hc3 : X.cell? ⟨(w.heap.size + 2), 3, none⟩ = some (.int .i64 n4) := (Hb_4.out.below hSw).cell 3
                have hc4 : X.cell? ⟨(w.heap.size + 2), 4, none⟩ = some (.int .i64 n5) := (Hb_4.out.below hSw).cell 4
                have hc5 : X.cell? ⟨(w.heap.size + 2), 5, none⟩ = some (.int .i64 n6) := (Hb_4.out.below hSw).cell 5
                have hc6 : X.cell? ⟨(w.heap.size + 2), 6, none⟩ = some (.int .i64 l1) := (Hb_4.out.below hSw).cell 6
                have hc7 : X.cell? ⟨(w.heap.size + 2), 7, none⟩ = some (.int .i64 l2) := (Hb_4.out.below hSw).cell 7
                have hc8 : X.cell? ⟨(w.heap.size + 2), 8, none⟩ = some (.int .i64 l3) := (Hb_4.out.below hSw).cell 8
                have hc9 : X.cell? ⟨(w.heap.size + 2), 9, none⟩ = some (.int .i64 l4) := (Hb_4.out.below hSw).cell 9
                have hc10 : X.cell? ⟨(w.heap.size + 2), 10, none⟩ = some (.int .i64 l5) := (Hb_4.out.below hSw).cell 10
                have hc11 : X.cell? ⟨(w.heap.size + 2), 11, none⟩ = some (.string ⟨u1.toArray⟩) := (Hb_4.out.below hSw).cell 11
                have hc12 : X.cell? ⟨(w.heap.size + 2), 12, none⟩ = some (.string ⟨u2.toArray⟩) := (Hb_4.out.below hSw).cell 12
                have hc13 : X.cell? ⟨(w.heap.size + 2), 13, none⟩ = some (.string ⟨u3.toArray⟩) := (Hb_4.out.below hSw).cell 13
                go_simp
                try with_reducible rfl
              rotate_left
              try simp only [Act.put, List.setIfInBounds_toArray, List.set_cons_zero, List.set_cons_succ, List.getElem_toArray, List.getElem_cons_zero, List.getElem_cons_succ]
              refine wpAnyH_take (i := 9) (v := .bool bm) rfl (by kernel_rfl) (by kernel_rfl) (by kernel_rfl) (fun _ _ _ h => h) (Or.inl ⟨by rfl, ?_⟩) (by assumption) ?_
              · intro X hSw
                apply exec_eql (t := 25) (ty := 25) (x := .tmp 103) (y := .tmp 104) (hr := HEQ.out X)
                · rfl
                · rfl
                · rfl
                · kernel_rfl
              try simp only [Act.put, List.setIfInBounds_toArray, List.set_cons_zero, List.set_cons_succ, List.getElem_toArray, List.getElem_cons_zero, List.getElem_cons_succ]
              refine wpAnyH_ready (rs := [3]) (by kernel_rfl) (by simp) ?_
              refine (AllReadyH.cons rfl (fun K hK => ?_) AllReadyH.nil)
              rw [if_pos (by rfl)]
              go_wp2_with fail
              refine (HMa.out _).mono ?_
              rintro e wq ⟨rfl, hb⟩
              replace hHeld := below_trans hHeld hb (Below.size hHeld)
              clear hb
              refine hK.out _ _ hHeld (fun _ => ?_)
              clear hK K
              try simp only [Act.put, List.setIfInBounds_toArray, List.set_cons_zero, List.set_cons_succ, List.getElem_toArray, List.getElem_cons_zero, List.getElem_cons_succ]
              refine wpAnyH_ready (rs := [5]) (by kernel_rfl) (by simp) ?_
              refine (AllReadyH.cons rfl (fun K hK => ?_) AllReadyH.nil)
              rw [if_pos (by rfl)]
              go_wp2_with fail
              refine (HMb.out _).mono ?_
              rintro e wq ⟨rfl, hb⟩
              replace hHeld := below_trans hHeld hb (Below.size hHeld)
              clear hb
              refine hK.out _ _ hHeld (fun _ => ?_)
              clear hK K
              try simp only [Act.put, List.setIfInBounds_toArray, List.set_cons_zero, List.set_cons_succ, List.getElem_toArray, List.getElem_cons_zero, List.getElem_cons_succ]
              refine wpAnyH_take (i := 6) (v := ?_) rfl (by kernel_rfl) (by kernel_rfl) (by kernel_rfl) (fun _ _ _ h => h) (Or.inl ⟨by rfl, ?_⟩) (by assumption) ?_
              rotate_left
              · intro X hSw
                have hq := HMM.out
                go_simp
                try with_reducible rfl
              rotate_left
              try simp only [Act.put, List.setIfInBounds_toArray, List.set_cons_zero, List.set_cons_succ, List.getElem_toArray, List.getElem_cons_zero, List.getElem_cons_succ]
              refine wpAnyH_take (i := 10) (v := ?_) rfl (by kernel_rfl) (by kernel_rfl) (by kernel_rfl) (fun _ _ _ h => h) (Or.inl ⟨by rfl, ?_⟩) (by assumption) ?_
              rotate_left
              · intro X hSw
                go_simp
                try with_reducible rfl
              rotate_left
              try simp only [Act.put, List.setIfInBounds_toArray, List.set_cons_zero, List.set_cons_succ, List.getElem_toArray, List.getElem_cons_zero, List.getElem_cons_succ]
              refine wpAnyH_take (i := 11) (v := ?_) rfl (by kernel_rfl) (by kernel_rfl) (by kernel_rfl) (fun _ _ _ h => h) (Or.inl ⟨by rfl, ?_⟩) (by assumption) ?_
              rotate_left
              · intro X hSw
                go_simp
                try with_reducible rfl
              rotate_left
              try simp only [Act.put, List.setIfInBounds_toArray, List.set_cons_zero, List.set_cons_succ, List.getElem_toArray, List.getElem_cons_zero, List.getElem_cons_succ]
              refine wpAnyH_take (i := 12) (v := ?_) rfl (by kernel_rfl) (by kernel_rfl) (by kernel_rfl) (fun _ _ _ h => h) (Or.inl ⟨by rfl, ?_⟩) (by assumption) ?_
              rotate_left
              · intro X hSw
                go_simp
                try with_reducible rfl
              rotate_left
              try simp only [Act.put, List.setIfInBounds_toArray, List.set_cons_zero, List.set_cons_succ, List.getElem_toArray, List.getElem_cons_zero, List.getElem_cons_succ]
              refine wpAnyH_take (i := 13) (v := ?_) rfl (by kernel_rfl) (by kernel_rfl) (by kernel_rfl) (fun _ _ _ h => h) (Or.inl ⟨by rfl, ?_⟩) (by assumption) ?_
              rotate_left
              · intro X hSw
                have hc0 : X.cell? ⟨(w.heap.size + 3), 0, none⟩ = some (.int .i64 r1) := (Hr_4.out.below hSw).cell 0
                have hc1 : X.cell? ⟨(w.heap.size + 3), 1, none⟩ = some (.int .i64 r2) := (Hr_4.out.below hSw).cell 1
                have hc2 : X.cell? ⟨(w.heap.size + 3), 2, none⟩ = some (.int .i64 r3) := (Hr_4.out.below hSw).cell 2
                have hc3 : X.cell? ⟨(w.heap.size + 3), 3, none⟩ = some (.int .i64 r4) := (Hr_4.out.below hSw).cell 3
                have hc4 : X.cell? ⟨(w.heap.size + 3), 4, none⟩ = some (.int .i64 r5) := (Hr_4.out.below hSw).cell 4
                have hc5 : X.cell? ⟨(w.heap.size + 3), 5, none⟩ = some (.int .i64 r6) := (Hr_4.out.below hSw).cell 5
                have hc6 : X.cell? ⟨(w.heap.size + 3), 6, none⟩ = some (.int .i64 r7) := (Hr_4.out.below hSw).cell 6
                have hc7 : X.cell? ⟨(w.heap.size + 3), 7, none⟩ = some (.int .i64 r8) := (Hr_4.out.below hSw).cell 7
                have hc8 : X.cell? ⟨(w.heap.size + 3), 8, none⟩ = some (.int .i64 r9) := (Hr_4.out.below hSw).cell 8
                have hc9 : X.cell? ⟨(w.heap.size + 3), 9, none⟩ = some (.string ⟨tx.toArray⟩) := (Hr_4.out.below hSw).cell 9
                have hc10 : X.cell? ⟨(w.heap.size + 3), 10, none⟩ = some (.slice A ls.length cp) := (Hr_4.out.below hSw).cell 10
                go_simp
                try with_reducible rfl
              rotate_left
              try simp only [Act.put, List.setIfInBounds_toArray, List.set_cons_zero, List.set_cons_succ, List.getElem_toArray, List.getElem_cons_zero, List.getElem_cons_succ]
              refine wpAnyH_take (i := 15) (v := ?_) rfl (by kernel_rfl) (by kernel_rfl) (by kernel_rfl) (fun _ _ _ h => h) (Or.inl ⟨by rfl, ?_⟩) (by assumption) ?_
              rotate_left
              · intro X hSw
                have hc0 : X.cell? ⟨(w.heap.size + 4), 0, none⟩ = some (.int .i64 q1) := (Hq_4.out.below hSw).cell 0
                have hc1 : X.cell? ⟨(w.heap.size + 4), 1, none⟩ = some (.int .i64 q2) := (Hq_4.out.below hSw).cell 1
                have hc2 : X.cell? ⟨(w.heap.size + 4), 2, none⟩ = some (.int .i64 q3) := (Hq_4.out.below hSw).cell 2
                have hc3 : X.cell? ⟨(w.heap.size + 4), 3, none⟩ = some (.int .i64 q4) := (Hq_4.out.below hSw).cell 3
                have hc4 : X.cell? ⟨(w.heap.size + 4), 4, none⟩ = some (.int .i64 q5) := (Hq_4.out.below hSw).cell 4
                have hc5 : X.cell? ⟨(w.heap.size + 4), 5, none⟩ = some (.int .i64 q6) := (Hq_4.out.below hSw).cell 5
                have hc6 : X.cell? ⟨(w.heap.size + 4), 6, none⟩ = some (.int .i64 q7) := (Hq_4.out.below hSw).cell 6
                have hc7 : X.cell? ⟨(w.heap.size + 4), 7, none⟩ = some (.int .i64 q8) := (Hq_4.out.below hSw).cell 7
                have hc8 : X.cell? ⟨(w.heap.size + 4), 8, none⟩ = some (.int .i64 q9) := (Hq_4.out.below hSw).cell 8
                have hc9 : X.cell? ⟨(w.heap.size + 4), 9, none⟩ = some (.string ⟨ux.toArray⟩) := (Hq_4.out.below hSw).cell 9
                have hc10 : X.cell? ⟨(w.heap.size + 4), 10, none⟩ = some (.slice B ks.length cq) := (Hq_4.out.below hSw).cell 10
                go_simp
                try with_reducible rfl
              rotate_left
              try simp only [Act.put, List.setIfInBounds_toArray, List.set_cons_zero, List.set_cons_succ, List.getElem_toArray, List.getElem_cons_zero, List.getElem_cons_succ]
              refine wpAnyH_take (i := 18) (v := ?_) rfl (by kernel_rfl) (by kernel_rfl) (by kernel_rfl) (fun _ _ _ h => h) (Or.inl ⟨by rfl, ?_⟩) (by assumption) ?_
              rotate_left
              · intro X hSw
                go_simp
                try with_reducible rfl
              rotate_left
              try simp only [Act.put, List.setIfInBounds_toArray, List.set_cons_zero, List.set_cons_succ, List.getElem_toArray, List.getElem_cons_zero, List.getElem_cons_succ]
              refine wpAnyH_ready (rs := [14]) (by kernel_rfl) (by simp) ?_
              refine (AllReadyH.cons rfl (fun K hK => ?_) AllReadyH.nil)
              rw [if_pos (by rfl)]
              go_wp2_with fail
              refine (HRa.out _ _ ⟨A, cp, rfl, Rr_4.out.below hHeld⟩).mono ?_
              rintro e wq ⟨rfl, hb⟩
              replace hHeld := below_trans hHeld hb (Below.size hHeld)
              clear hb
              refine hK.out _ _ hHeld (fun _ => ?_)
              clear hK K
              try simp only [Act.put, List.setIfInBounds_toArray, List.set_cons_zero, List.set_cons_succ, List.getElem_toArray, List.getElem_cons_zero, List.getElem_cons_succ]
              refine wpAnyH_ready (rs := [16]) (by kernel_rfl) (by simp) ?_
              refine (AllReadyH.cons rfl (fun K hK => ?_) AllReadyH.nil)
              rw [if_pos (by rfl)]
              go_wp2_with fail
              refine (HRb.out _ _ ⟨B, cq, rfl, Rq_4.out.below hHeld⟩).mono ?_
              rintro e wq ⟨rfl, hb⟩
              replace hHeld := below_trans hHeld hb (Below.size hHeld)
              clear hb
              refine hK.out _ _ hHeld (fun _ => ?_)
              clear hK K
              try simp only [Act.put, List.setIfInBounds_toArray, List.set_cons_zero, List.set_cons_succ, List.getElem_toArray, List.getElem_cons_zero, List.getElem_cons_succ]
              refine wpAnyH_take (i := 17) (v := ?_) rfl (by kernel_rfl) (by kernel_rfl) (by kernel_rfl) (fun _ _ _ h => h) (Or.inl ⟨by rfl, ?_⟩) (by assumption) ?_
              rotate_left
              · intro X hSw
                have hq := HRR.out
                go_simp
                try with_reducible rfl
              rotate_left
              try simp only [Act.put, List.setIfInBounds_toArray, List.set_cons_zero, List.set_cons_succ, List.getElem_toArray, List.getElem_cons_zero, List.getElem_cons_succ]
              refine wpAnyH_take (i := 19) (v := ?_) rfl (by kernel_rfl) (by kernel_rfl) (by kernel_rfl) (fun _ _ _ h => h) (Or.inl ⟨by rfl, ?_⟩) (by assumption) ?_
              rotate_left
              · intro X hSw
                go_simp
                try with_reducible rfl
              rotate_left
              try simp only [Act.put, List.setIfInBounds_toArray, List.set_cons_zero, List.set_cons_succ, List.getElem_toArray, List.getElem_cons_zero, List.getElem_cons_succ]
              refine wpAnyH_take (i := 20) (v := ?_) rfl (by kernel_rfl) (by kernel_rfl) (by kernel_rfl) (fun _ _ _ h => h) (Or.inl ⟨by rfl, ?_⟩) (by assumption) ?_
              rotate_left
              · intro X hSw
                go_simp
                try with_reducible rfl
              rotate_left
              try simp only [Act.put, List.setIfInBounds_toArray, List.set_cons_zero, List.set_cons_succ, List.getElem_toArray, List.getElem_cons_zero, List.getElem_cons_succ]
              refine wpAnyH_take (i := 21) (v := ?_) rfl (by kernel_rfl) (by kernel_rfl) (by kernel_rfl) (fun _ _ _ h => h) (Or.inl ⟨by rfl, ?_⟩) (by assumption) ?_
              rotate_left
              · intro X hSw
                go_simp
                try with_reducible rfl
              rotate_left
              try simp only [Act.put, List.setIfInBounds_toArray, List.set_cons_zero, List.set_cons_succ, List.getElem_toArray, List.getElem_cons_zero, List.getElem_cons_succ]
              refine wpAnyH_done (by kernel_rfl) ?_ _
              go_wp2_with fail
              go_ret
              exact ⟨rfl, below_trans BW_4.out hHeld BW_4.out.size⟩
theorem own : ownKnob Try.prog.godebug = none := by kernel_rfl
theorem laidOut : laidOutB Try.prog = true := by kernel_rfl
theorem cellscopyhold_copyholdlaw15_WireApartIn : Try.prog.cellsOf 59 = 50 := by kernel_rfl
theorem cellscopyhold_api_Msg : Try.prog.cellsOf 25 = 14 := by kernel_rfl
theorem cellsint : Try.prog.cellsOf 3 = 1 := by kernel_rfl
theorem cellscopyhold_api_Call : Try.prog.cellsOf 23 = 8 := by kernel_rfl
theorem cellsstring : Try.prog.cellsOf 9 = 1 := by kernel_rfl
theorem cellscopyhold_api_Rsp : Try.prog.cellsOf 31 = 11 := by kernel_rfl
theorem cellscopyhold_api_Reply : Try.prog.cellsOf 29 = 6 := by kernel_rfl
theorem cellscopyhold_api_Errno : Try.prog.cellsOf 26 = 1 := by kernel_rfl
theorem cells__string : Try.prog.cellsOf 27 = 1 := by kernel_rfl

set_option maxRecDepth 100000 in
set_option maxHeartbeats 1000000 in
theorem lifted (os : Os) (started : os.Started) (H : Type) (enc : TypeId × Value → H) :
    ReturnsInHanded {} Try.checked os 8 .any (Rows.wireApartSpec.pre6 enc Try.prog Try.f8 Rows.wireApartRow.domain false) (Rows.wireApartSpec.post enc Try.prog Try.f8 false true false false) := by
  refine returnsInHanded_of_change_sized (C := Try.checked) own started (by kernel_rfl) Try.func8
    (ChangeSpec.witness6 (enc := enc) (C := Try.checked) false ⟨#[], #[.agg #[.int .i64 0, .int .i64 0, .int .i64 0, .int .i64 0, .int .i64 0, .int .i64 0, .int .i64 0, .int .i64 0, .int .i64 0, .int .i64 0, .int .i64 0, .string ByteArray.empty, .string ByteArray.empty, .string ByteArray.empty, .int .i64 0, .int .i64 0, .int .i64 0, .int .i64 0, .int .i64 0, .int .i64 0, .int .i64 0, .int .i64 0, .int .i64 0, .int .i64 0, .int .i64 0, .string ByteArray.empty, .string ByteArray.empty, .string ByteArray.empty, .int .i64 0, .int .i64 0, .int .i64 0, .int .i64 0, .int .i64 0, .int .i64 0, .int .i64 0, .int .i64 0, .int .i64 0, .string ByteArray.empty, .slice none 0 0, .int .i64 0, .int .i64 0, .int .i64 0, .int .i64 0, .int .i64 0, .int .i64 0, .int .i64 0, .int .i64 0, .int .i64 0, .string ByteArray.empty, .slice none 0 0]], []⟩ 8 (by kernel_rfl) (by kernel_rfl) (by kernel_rfl) (by kernel_rfl)) ?_
  intro W base args ds gs before hval0 hW hcnd hsz0 _
  have hsz : (DataW.weightsEach Try.prog (Try.f8.params.toList ++ []) (ds ++ gs)).all (· ≤ reachBytes) = true := hsz0
  clear hsz0
  have hval : ∀ (j : Nat) t v, Try.f8.params[j]? = some t → args[j]? = some v → Value.okWide Try.prog W .any base t v := hval0
  have hW' := hW
  have hlt := hW.lt
  obtain ⟨p, q, hA0, hV, rfl, hfz, hnd⟩ := hW
  have hA : DataW.TrodAll enc Try.prog W 0 (fun _ => true) true Try.f8.params.toList args.toList ds p := hA0
  rw [Try.params8] at hA hval
  obtain ⟨v0, vs0, d0, ds0, p0, q0, hargs, rfl, rfl, h0, r0⟩ := trodAll_cons hA
  obtain ⟨rfl, rfl, rfl⟩ := trodAll_nil r0
  obtain rfl : args = #[v0] := by cases args; simp_all
  obtain ⟨rfl, rfl⟩ := trodVars_none hV
  obtain ⟨cs0, rfl, hcz0⟩ := okWide_struct Try.underlying59 (hval 0 59 v0 rfl rfl)
  rw [cellscopyhold_copyholdlaw15_WireApartIn] at hcz0
  obtain ⟨c0_0_0, c0_0_1, c0_0_2, c0_0_3, c0_0_4, c0_0_5, c0_0_6_0, c0_0_6_1, c0_0_6_2, c0_0_6_3, c0_0_6_4, c0_0_6_5, c0_0_6_6, c0_0_6_7, c0_1_0, c0_1_1, c0_1_2, c0_1_3, c0_1_4, c0_1_5, c0_1_6_0, c0_1_6_1, c0_1_6_2, c0_1_6_3, c0_1_6_4, c0_1_6_5, c0_1_6_6, c0_1_6_7, c0_2_0, c0_2_1, c0_2_2, c0_2_3, c0_2_4, c0_2_5_0, c0_2_5_1, c0_2_5_2, c0_2_5_3, c0_2_5_4, c0_2_5_5, c0_3_0, c0_3_1, c0_3_2, c0_3_3, c0_3_4, c0_3_5_0, c0_3_5_1, c0_3_5_2, c0_3_5_3, c0_3_5_4, c0_3_5_5, rfl⟩ := array50_of hcz0
  obtain ⟨fuel0, hf0⟩ := h0
  obtain ⟨xs0, m0, _, hx0, _, hlen0, hfl0⟩ := DataW.trod_struct Try.underlying59 hf0
  obtain ⟨y0_0, y0_1, y0_2, y0_3, rfl⟩ := list4 hlen0
  have g0_0 : DataW.trod enc Try.prog W 0 (fun _ => true) true m0 25 [c0_0_0, c0_0_1, c0_0_2, c0_0_3, c0_0_4, c0_0_5, c0_0_6_0, c0_0_6_1, c0_0_6_2, c0_0_6_3, c0_0_6_4, c0_0_6_5, c0_0_6_6, c0_0_6_7] = some y0_0 := by have h := hfl0 0 _ rfl; simpa [Value.cells, cellscopyhold_api_Msg] using h
  have g0_1 : DataW.trod enc Try.prog W 0 (fun _ => true) true m0 25 [c0_1_0, c0_1_1, c0_1_2, c0_1_3, c0_1_4, c0_1_5, c0_1_6_0, c0_1_6_1, c0_1_6_2, c0_1_6_3, c0_1_6_4, c0_1_6_5, c0_1_6_6, c0_1_6_7] = some y0_1 := by have h := hfl0 1 _ rfl; simpa [Value.cells, cellscopyhold_api_Msg] using h
  have g0_2 : DataW.trod enc Try.prog W 0 (fun _ => true) true m0 31 [c0_2_0, c0_2_1, c0_2_2, c0_2_3, c0_2_4, c0_2_5_0, c0_2_5_1, c0_2_5_2, c0_2_5_3, c0_2_5_4, c0_2_5_5] = some y0_2 := by have h := hfl0 2 _ rfl; simpa [Value.cells, cellscopyhold_api_Rsp] using h
  have g0_3 : DataW.trod enc Try.prog W 0 (fun _ => true) true m0 31 [c0_3_0, c0_3_1, c0_3_2, c0_3_3, c0_3_4, c0_3_5_0, c0_3_5_1, c0_3_5_2, c0_3_5_3, c0_3_5_4, c0_3_5_5] = some y0_3 := by have h := hfl0 3 _ rfl; simpa [Value.cells, cellscopyhold_api_Rsp] using h
  simp only [Prod.mk.injEq] at hx0
  obtain ⟨rfl, hp0⟩ := hx0
  subst hp0
  obtain ⟨xs0_0, m0_0, _, hx0_0, _, hlen0_0, hfl0_0⟩ := DataW.trod_struct Try.underlying25 g0_0
  obtain ⟨y0_0_0, y0_0_1, y0_0_2, y0_0_3, y0_0_4, y0_0_5, y0_0_6, rfl⟩ := list7 hlen0_0
  have g0_0_0 : DataW.trod enc Try.prog W 0 (fun _ => true) true m0_0 3 [c0_0_0] = some y0_0_0 := by have h := hfl0_0 0 _ rfl; simpa [Value.cells, cellsint] using h
  have g0_0_1 : DataW.trod enc Try.prog W 0 (fun _ => true) true m0_0 3 [c0_0_1] = some y0_0_1 := by have h := hfl0_0 1 _ rfl; simpa [Value.cells, cellsint] using h
  have g0_0_2 : DataW.trod enc Try.prog W 0 (fun _ => true) true m0_0 3 [c0_0_2] = some y0_0_2 := by have h := hfl0_0 2 _ rfl; simpa [Value.cells, cellsint] using h
  have g0_0_3 : DataW.trod enc Try.prog W 0 (fun _ => true) true m0_0 3 [c0_0_3] = some y0_0_3 := by have h := hfl0_0 3 _ rfl; simpa [Value.cells, cellsint] using h
  have g0_0_4 : DataW.trod enc Try.prog W 0 (fun _ => true) true m0_0 3 [c0_0_4] = some y0_0_4 := by have h := hfl0_0 4 _ rfl; simpa [Value.cells, cellsint] using h
  have g0_0_5 : DataW.trod enc Try.prog W 0 (fun _ => true) true m0_0 3 [c0_0_5] = some y0_0_5 := by have h := hfl0_0 5 _ rfl; simpa [Value.cells, cellsint] using h
  have g0_0_6 : DataW.trod enc Try.prog W 0 (fun _ => true) true m0_0 23 [c0_0_6_0, c0_0_6_1, c0_0_6_2, c0_0_6_3, c0_0_6_4, c0_0_6_5, c0_0_6_6, c0_0_6_7] = some y0_0_6 := by have h := hfl0_0 6 _ rfl; simpa [Value.cells, cellscopyhold_api_Call] using h
  subst hx0_0
  obtain ⟨a0_0_0, ev0_0_0, ey0_0_0, w0_0_0⟩ := DataW.trod_int Try.underlying3 g0_0_0
  obtain rfl : c0_0_0 = _ := by simpa using ev0_0_0
  subst ey0_0_0
  obtain ⟨a0_0_1, ev0_0_1, ey0_0_1, w0_0_1⟩ := DataW.trod_int Try.underlying3 g0_0_1
  obtain rfl : c0_0_1 = _ := by simpa using ev0_0_1
  subst ey0_0_1
  obtain ⟨a0_0_2, ev0_0_2, ey0_0_2, w0_0_2⟩ := DataW.trod_int Try.underlying3 g0_0_2
  obtain rfl : c0_0_2 = _ := by simpa using ev0_0_2
  subst ey0_0_2
  obtain ⟨a0_0_3, ev0_0_3, ey0_0_3, w0_0_3⟩ := DataW.trod_int Try.underlying3 g0_0_3
  obtain rfl : c0_0_3 = _ := by simpa using ev0_0_3
  subst ey0_0_3
  obtain ⟨a0_0_4, ev0_0_4, ey0_0_4, w0_0_4⟩ := DataW.trod_int Try.underlying3 g0_0_4
  obtain rfl : c0_0_4 = _ := by simpa using ev0_0_4
  subst ey0_0_4
  obtain ⟨a0_0_5, ev0_0_5, ey0_0_5, w0_0_5⟩ := DataW.trod_int Try.underlying3 g0_0_5
  obtain rfl : c0_0_5 = _ := by simpa using ev0_0_5
  subst ey0_0_5
  obtain ⟨xs0_0_6, m0_0_6, _, hx0_0_6, _, hlen0_0_6, hfl0_0_6⟩ := DataW.trod_struct Try.underlying23 g0_0_6
  obtain ⟨y0_0_6_0, y0_0_6_1, y0_0_6_2, y0_0_6_3, y0_0_6_4, y0_0_6_5, y0_0_6_6, y0_0_6_7, rfl⟩ := list8 hlen0_0_6
  have g0_0_6_0 : DataW.trod enc Try.prog W 0 (fun _ => true) true m0_0_6 3 [c0_0_6_0] = some y0_0_6_0 := by have h := hfl0_0_6 0 _ rfl; simpa [Value.cells, cellsint] using h
  have g0_0_6_1 : DataW.trod enc Try.prog W 0 (fun _ => true) true m0_0_6 3 [c0_0_6_1] = some y0_0_6_1 := by have h := hfl0_0_6 1 _ rfl; simpa [Value.cells, cellsint] using h
  have g0_0_6_2 : DataW.trod enc Try.prog W 0 (fun _ => true) true m0_0_6 3 [c0_0_6_2] = some y0_0_6_2 := by have h := hfl0_0_6 2 _ rfl; simpa [Value.cells, cellsint] using h
  have g0_0_6_3 : DataW.trod enc Try.prog W 0 (fun _ => true) true m0_0_6 3 [c0_0_6_3] = some y0_0_6_3 := by have h := hfl0_0_6 3 _ rfl; simpa [Value.cells, cellsint] using h
  have g0_0_6_4 : DataW.trod enc Try.prog W 0 (fun _ => true) true m0_0_6 3 [c0_0_6_4] = some y0_0_6_4 := by have h := hfl0_0_6 4 _ rfl; simpa [Value.cells, cellsint] using h
  have g0_0_6_5 : DataW.trod enc Try.prog W 0 (fun _ => true) true m0_0_6 9 [c0_0_6_5] = some y0_0_6_5 := by have h := hfl0_0_6 5 _ rfl; simpa [Value.cells, cellsstring] using h
  have g0_0_6_6 : DataW.trod enc Try.prog W 0 (fun _ => true) true m0_0_6 9 [c0_0_6_6] = some y0_0_6_6 := by have h := hfl0_0_6 6 _ rfl; simpa [Value.cells, cellsstring] using h
  have g0_0_6_7 : DataW.trod enc Try.prog W 0 (fun _ => true) true m0_0_6 9 [c0_0_6_7] = some y0_0_6_7 := by have h := hfl0_0_6 7 _ rfl; simpa [Value.cells, cellsstring] using h
  subst hx0_0_6
  obtain ⟨a0_0_6_0, ev0_0_6_0, ey0_0_6_0, w0_0_6_0⟩ := DataW.trod_int Try.underlying3 g0_0_6_0
  obtain rfl : c0_0_6_0 = _ := by simpa using ev0_0_6_0
  subst ey0_0_6_0
  obtain ⟨a0_0_6_1, ev0_0_6_1, ey0_0_6_1, w0_0_6_1⟩ := DataW.trod_int Try.underlying3 g0_0_6_1
  obtain rfl : c0_0_6_1 = _ := by simpa using ev0_0_6_1
  subst ey0_0_6_1
  obtain ⟨a0_0_6_2, ev0_0_6_2, ey0_0_6_2, w0_0_6_2⟩ := DataW.trod_int Try.underlying3 g0_0_6_2
  obtain rfl : c0_0_6_2 = _ := by simpa using ev0_0_6_2
  subst ey0_0_6_2
  obtain ⟨a0_0_6_3, ev0_0_6_3, ey0_0_6_3, w0_0_6_3⟩ := DataW.trod_int Try.underlying3 g0_0_6_3
  obtain rfl : c0_0_6_3 = _ := by simpa using ev0_0_6_3
  subst ey0_0_6_3
  obtain ⟨a0_0_6_4, ev0_0_6_4, ey0_0_6_4, w0_0_6_4⟩ := DataW.trod_int Try.underlying3 g0_0_6_4
  obtain rfl : c0_0_6_4 = _ := by simpa using ev0_0_6_4
  subst ey0_0_6_4
  obtain ⟨s0_0_6_5, ev0_0_6_5, ey0_0_6_5, w0_0_6_5⟩ := DataW.trod_string Try.underlying9 g0_0_6_5
  obtain rfl : c0_0_6_5 = _ := by simpa using ev0_0_6_5
  subst ey0_0_6_5
  have z0_0_6_5 : s0_0_6_5.data.toList.length ≤ 140737488351232 := sized_deep hsz (by rw [Try.params8]; simp [DataW.weightsEach, DataW.weights, Try.underlying59, Try.underlying25, Try.underlying23, Try.underlying25, Try.underlying23, Try.underlying31, Try.underlying29, Try.underlying31, Try.underlying29])
  obtain ⟨a0_0_6_5, rfl⟩ : ∃ l : List UInt8, s0_0_6_5 = ⟨l.toArray⟩ := ⟨s0_0_6_5.data.toList, rfl⟩
  obtain ⟨s0_0_6_6, ev0_0_6_6, ey0_0_6_6, w0_0_6_6⟩ := DataW.trod_string Try.underlying9 g0_0_6_6
  obtain rfl : c0_0_6_6 = _ := by simpa using ev0_0_6_6
  subst ey0_0_6_6
  have z0_0_6_6 : s0_0_6_6.data.toList.length ≤ 140737488351232 := sized_deep hsz (by rw [Try.params8]; simp [DataW.weightsEach, DataW.weights, Try.underlying59, Try.underlying25, Try.underlying23, Try.underlying25, Try.underlying23, Try.underlying31, Try.underlying29, Try.underlying31, Try.underlying29])
  obtain ⟨a0_0_6_6, rfl⟩ : ∃ l : List UInt8, s0_0_6_6 = ⟨l.toArray⟩ := ⟨s0_0_6_6.data.toList, rfl⟩
  obtain ⟨s0_0_6_7, ev0_0_6_7, ey0_0_6_7, w0_0_6_7⟩ := DataW.trod_string Try.underlying9 g0_0_6_7
  obtain rfl : c0_0_6_7 = _ := by simpa using ev0_0_6_7
  subst ey0_0_6_7
  have z0_0_6_7 : s0_0_6_7.data.toList.length ≤ 140737488351232 := sized_deep hsz (by rw [Try.params8]; simp [DataW.weightsEach, DataW.weights, Try.underlying59, Try.underlying25, Try.underlying23, Try.underlying25, Try.underlying23, Try.underlying31, Try.underlying29, Try.underlying31, Try.underlying29])
  obtain ⟨a0_0_6_7, rfl⟩ : ∃ l : List UInt8, s0_0_6_7 = ⟨l.toArray⟩ := ⟨s0_0_6_7.data.toList, rfl⟩
  obtain ⟨xs0_1, m0_1, _, hx0_1, _, hlen0_1, hfl0_1⟩ := DataW.trod_struct Try.underlying25 g0_1
  obtain ⟨y0_1_0, y0_1_1, y0_1_2, y0_1_3, y0_1_4, y0_1_5, y0_1_6, rfl⟩ := list7 hlen0_1
  have g0_1_0 : DataW.trod enc Try.prog W 0 (fun _ => true) true m0_1 3 [c0_1_0] = some y0_1_0 := by have h := hfl0_1 0 _ rfl; simpa [Value.cells, cellsint] using h
  have g0_1_1 : DataW.trod enc Try.prog W 0 (fun _ => true) true m0_1 3 [c0_1_1] = some y0_1_1 := by have h := hfl0_1 1 _ rfl; simpa [Value.cells, cellsint] using h
  have g0_1_2 : DataW.trod enc Try.prog W 0 (fun _ => true) true m0_1 3 [c0_1_2] = some y0_1_2 := by have h := hfl0_1 2 _ rfl; simpa [Value.cells, cellsint] using h
  have g0_1_3 : DataW.trod enc Try.prog W 0 (fun _ => true) true m0_1 3 [c0_1_3] = some y0_1_3 := by have h := hfl0_1 3 _ rfl; simpa [Value.cells, cellsint] using h
  have g0_1_4 : DataW.trod enc Try.prog W 0 (fun _ => true) true m0_1 3 [c0_1_4] = some y0_1_4 := by have h := hfl0_1 4 _ rfl; simpa [Value.cells, cellsint] using h
  have g0_1_5 : DataW.trod enc Try.prog W 0 (fun _ => true) true m0_1 3 [c0_1_5] = some y0_1_5 := by have h := hfl0_1 5 _ rfl; simpa [Value.cells, cellsint] using h
  have g0_1_6 : DataW.trod enc Try.prog W 0 (fun _ => true) true m0_1 23 [c0_1_6_0, c0_1_6_1, c0_1_6_2, c0_1_6_3, c0_1_6_4, c0_1_6_5, c0_1_6_6, c0_1_6_7] = some y0_1_6 := by have h := hfl0_1 6 _ rfl; simpa [Value.cells, cellscopyhold_api_Call] using h
  subst hx0_1
  obtain ⟨a0_1_0, ev0_1_0, ey0_1_0, w0_1_0⟩ := DataW.trod_int Try.underlying3 g0_1_0
  obtain rfl : c0_1_0 = _ := by simpa using ev0_1_0
  subst ey0_1_0
  obtain ⟨a0_1_1, ev0_1_1, ey0_1_1, w0_1_1⟩ := DataW.trod_int Try.underlying3 g0_1_1
  obtain rfl : c0_1_1 = _ := by simpa using ev0_1_1
  subst ey0_1_1
  obtain ⟨a0_1_2, ev0_1_2, ey0_1_2, w0_1_2⟩ := DataW.trod_int Try.underlying3 g0_1_2
  obtain rfl : c0_1_2 = _ := by simpa using ev0_1_2
  subst ey0_1_2
  obtain ⟨a0_1_3, ev0_1_3, ey0_1_3, w0_1_3⟩ := DataW.trod_int Try.underlying3 g0_1_3
  obtain rfl : c0_1_3 = _ := by simpa using ev0_1_3
  subst ey0_1_3
  obtain ⟨a0_1_4, ev0_1_4, ey0_1_4, w0_1_4⟩ := DataW.trod_int Try.underlying3 g0_1_4
  obtain rfl : c0_1_4 = _ := by simpa using ev0_1_4
  subst ey0_1_4
  obtain ⟨a0_1_5, ev0_1_5, ey0_1_5, w0_1_5⟩ := DataW.trod_int Try.underlying3 g0_1_5
  obtain rfl : c0_1_5 = _ := by simpa using ev0_1_5
  subst ey0_1_5
  obtain ⟨xs0_1_6, m0_1_6, _, hx0_1_6, _, hlen0_1_6, hfl0_1_6⟩ := DataW.trod_struct Try.underlying23 g0_1_6
  obtain ⟨y0_1_6_0, y0_1_6_1, y0_1_6_2, y0_1_6_3, y0_1_6_4, y0_1_6_5, y0_1_6_6, y0_1_6_7, rfl⟩ := list8 hlen0_1_6
  have g0_1_6_0 : DataW.trod enc Try.prog W 0 (fun _ => true) true m0_1_6 3 [c0_1_6_0] = some y0_1_6_0 := by have h := hfl0_1_6 0 _ rfl; simpa [Value.cells, cellsint] using h
  have g0_1_6_1 : DataW.trod enc Try.prog W 0 (fun _ => true) true m0_1_6 3 [c0_1_6_1] = some y0_1_6_1 := by have h := hfl0_1_6 1 _ rfl; simpa [Value.cells, cellsint] using h
  have g0_1_6_2 : DataW.trod enc Try.prog W 0 (fun _ => true) true m0_1_6 3 [c0_1_6_2] = some y0_1_6_2 := by have h := hfl0_1_6 2 _ rfl; simpa [Value.cells, cellsint] using h
  have g0_1_6_3 : DataW.trod enc Try.prog W 0 (fun _ => true) true m0_1_6 3 [c0_1_6_3] = some y0_1_6_3 := by have h := hfl0_1_6 3 _ rfl; simpa [Value.cells, cellsint] using h
  have g0_1_6_4 : DataW.trod enc Try.prog W 0 (fun _ => true) true m0_1_6 3 [c0_1_6_4] = some y0_1_6_4 := by have h := hfl0_1_6 4 _ rfl; simpa [Value.cells, cellsint] using h
  have g0_1_6_5 : DataW.trod enc Try.prog W 0 (fun _ => true) true m0_1_6 9 [c0_1_6_5] = some y0_1_6_5 := by have h := hfl0_1_6 5 _ rfl; simpa [Value.cells, cellsstring] using h
  have g0_1_6_6 : DataW.trod enc Try.prog W 0 (fun _ => true) true m0_1_6 9 [c0_1_6_6] = some y0_1_6_6 := by have h := hfl0_1_6 6 _ rfl; simpa [Value.cells, cellsstring] using h
  have g0_1_6_7 : DataW.trod enc Try.prog W 0 (fun _ => true) true m0_1_6 9 [c0_1_6_7] = some y0_1_6_7 := by have h := hfl0_1_6 7 _ rfl; simpa [Value.cells, cellsstring] using h
  subst hx0_1_6
  obtain ⟨a0_1_6_0, ev0_1_6_0, ey0_1_6_0, w0_1_6_0⟩ := DataW.trod_int Try.underlying3 g0_1_6_0
  obtain rfl : c0_1_6_0 = _ := by simpa using ev0_1_6_0
  subst ey0_1_6_0
  obtain ⟨a0_1_6_1, ev0_1_6_1, ey0_1_6_1, w0_1_6_1⟩ := DataW.trod_int Try.underlying3 g0_1_6_1
  obtain rfl : c0_1_6_1 = _ := by simpa using ev0_1_6_1
  subst ey0_1_6_1
  obtain ⟨a0_1_6_2, ev0_1_6_2, ey0_1_6_2, w0_1_6_2⟩ := DataW.trod_int Try.underlying3 g0_1_6_2
  obtain rfl : c0_1_6_2 = _ := by simpa using ev0_1_6_2
  subst ey0_1_6_2
  obtain ⟨a0_1_6_3, ev0_1_6_3, ey0_1_6_3, w0_1_6_3⟩ := DataW.trod_int Try.underlying3 g0_1_6_3
  obtain rfl : c0_1_6_3 = _ := by simpa using ev0_1_6_3
  subst ey0_1_6_3
  obtain ⟨a0_1_6_4, ev0_1_6_4, ey0_1_6_4, w0_1_6_4⟩ := DataW.trod_int Try.underlying3 g0_1_6_4
  obtain rfl : c0_1_6_4 = _ := by simpa using ev0_1_6_4
  subst ey0_1_6_4
  obtain ⟨s0_1_6_5, ev0_1_6_5, ey0_1_6_5, w0_1_6_5⟩ := DataW.trod_string Try.underlying9 g0_1_6_5
  obtain rfl : c0_1_6_5 = _ := by simpa using ev0_1_6_5
  subst ey0_1_6_5
  have z0_1_6_5 : s0_1_6_5.data.toList.length ≤ 140737488351232 := sized_deep hsz (by rw [Try.params8]; simp [DataW.weightsEach, DataW.weights, Try.underlying59, Try.underlying25, Try.underlying23, Try.underlying25, Try.underlying23, Try.underlying31, Try.underlying29, Try.underlying31, Try.underlying29])
  obtain ⟨a0_1_6_5, rfl⟩ : ∃ l : List UInt8, s0_1_6_5 = ⟨l.toArray⟩ := ⟨s0_1_6_5.data.toList, rfl⟩
  obtain ⟨s0_1_6_6, ev0_1_6_6, ey0_1_6_6, w0_1_6_6⟩ := DataW.trod_string Try.underlying9 g0_1_6_6
  obtain rfl : c0_1_6_6 = _ := by simpa using ev0_1_6_6
  subst ey0_1_6_6
  have z0_1_6_6 : s0_1_6_6.data.toList.length ≤ 140737488351232 := sized_deep hsz (by rw [Try.params8]; simp [DataW.weightsEach, DataW.weights, Try.underlying59, Try.underlying25, Try.underlying23, Try.underlying25, Try.underlying23, Try.underlying31, Try.underlying29, Try.underlying31, Try.underlying29])
  obtain ⟨a0_1_6_6, rfl⟩ : ∃ l : List UInt8, s0_1_6_6 = ⟨l.toArray⟩ := ⟨s0_1_6_6.data.toList, rfl⟩
  obtain ⟨s0_1_6_7, ev0_1_6_7, ey0_1_6_7, w0_1_6_7⟩ := DataW.trod_string Try.underlying9 g0_1_6_7
  obtain rfl : c0_1_6_7 = _ := by simpa using ev0_1_6_7
  subst ey0_1_6_7
  have z0_1_6_7 : s0_1_6_7.data.toList.length ≤ 140737488351232 := sized_deep hsz (by rw [Try.params8]; simp [DataW.weightsEach, DataW.weights, Try.underlying59, Try.underlying25, Try.underlying23, Try.underlying25, Try.underlying23, Try.underlying31, Try.underlying29, Try.underlying31, Try.underlying29])
  obtain ⟨a0_1_6_7, rfl⟩ : ∃ l : List UInt8, s0_1_6_7 = ⟨l.toArray⟩ := ⟨s0_1_6_7.data.toList, rfl⟩
  obtain ⟨xs0_2, m0_2, _, hx0_2, _, hlen0_2, hfl0_2⟩ := DataW.trod_struct Try.underlying31 g0_2
  obtain ⟨y0_2_0, y0_2_1, y0_2_2, y0_2_3, y0_2_4, y0_2_5, rfl⟩ := list6 hlen0_2
  have g0_2_0 : DataW.trod enc Try.prog W 0 (fun _ => true) true m0_2 3 [c0_2_0] = some y0_2_0 := by have h := hfl0_2 0 _ rfl; simpa [Value.cells, cellsint] using h
  have g0_2_1 : DataW.trod enc Try.prog W 0 (fun _ => true) true m0_2 3 [c0_2_1] = some y0_2_1 := by have h := hfl0_2 1 _ rfl; simpa [Value.cells, cellsint] using h
  have g0_2_2 : DataW.trod enc Try.prog W 0 (fun _ => true) true m0_2 3 [c0_2_2] = some y0_2_2 := by have h := hfl0_2 2 _ rfl; simpa [Value.cells, cellsint] using h
  have g0_2_3 : DataW.trod enc Try.prog W 0 (fun _ => true) true m0_2 3 [c0_2_3] = some y0_2_3 := by have h := hfl0_2 3 _ rfl; simpa [Value.cells, cellsint] using h
  have g0_2_4 : DataW.trod enc Try.prog W 0 (fun _ => true) true m0_2 3 [c0_2_4] = some y0_2_4 := by have h := hfl0_2 4 _ rfl; simpa [Value.cells, cellsint] using h
  have g0_2_5 : DataW.trod enc Try.prog W 0 (fun _ => true) true m0_2 29 [c0_2_5_0, c0_2_5_1, c0_2_5_2, c0_2_5_3, c0_2_5_4, c0_2_5_5] = some y0_2_5 := by have h := hfl0_2 5 _ rfl; simpa [Value.cells, cellscopyhold_api_Reply] using h
  subst hx0_2
  obtain ⟨a0_2_0, ev0_2_0, ey0_2_0, w0_2_0⟩ := DataW.trod_int Try.underlying3 g0_2_0
  obtain rfl : c0_2_0 = _ := by simpa using ev0_2_0
  subst ey0_2_0
  obtain ⟨a0_2_1, ev0_2_1, ey0_2_1, w0_2_1⟩ := DataW.trod_int Try.underlying3 g0_2_1
  obtain rfl : c0_2_1 = _ := by simpa using ev0_2_1
  subst ey0_2_1
  obtain ⟨a0_2_2, ev0_2_2, ey0_2_2, w0_2_2⟩ := DataW.trod_int Try.underlying3 g0_2_2
  obtain rfl : c0_2_2 = _ := by simpa using ev0_2_2
  subst ey0_2_2
  obtain ⟨a0_2_3, ev0_2_3, ey0_2_3, w0_2_3⟩ := DataW.trod_int Try.underlying3 g0_2_3
  obtain rfl : c0_2_3 = _ := by simpa using ev0_2_3
  subst ey0_2_3
  obtain ⟨a0_2_4, ev0_2_4, ey0_2_4, w0_2_4⟩ := DataW.trod_int Try.underlying3 g0_2_4
  obtain rfl : c0_2_4 = _ := by simpa using ev0_2_4
  subst ey0_2_4
  obtain ⟨xs0_2_5, m0_2_5, _, hx0_2_5, _, hlen0_2_5, hfl0_2_5⟩ := DataW.trod_struct Try.underlying29 g0_2_5
  obtain ⟨y0_2_5_0, y0_2_5_1, y0_2_5_2, y0_2_5_3, y0_2_5_4, y0_2_5_5, rfl⟩ := list6 hlen0_2_5
  have g0_2_5_0 : DataW.trod enc Try.prog W 0 (fun _ => true) true m0_2_5 26 [c0_2_5_0] = some y0_2_5_0 := by have h := hfl0_2_5 0 _ rfl; simpa [Value.cells, cellscopyhold_api_Errno] using h
  have g0_2_5_1 : DataW.trod enc Try.prog W 0 (fun _ => true) true m0_2_5 3 [c0_2_5_1] = some y0_2_5_1 := by have h := hfl0_2_5 1 _ rfl; simpa [Value.cells, cellsint] using h
  have g0_2_5_2 : DataW.trod enc Try.prog W 0 (fun _ => true) true m0_2_5 3 [c0_2_5_2] = some y0_2_5_2 := by have h := hfl0_2_5 2 _ rfl; simpa [Value.cells, cellsint] using h
  have g0_2_5_3 : DataW.trod enc Try.prog W 0 (fun _ => true) true m0_2_5 3 [c0_2_5_3] = some y0_2_5_3 := by have h := hfl0_2_5 3 _ rfl; simpa [Value.cells, cellsint] using h
  have g0_2_5_4 : DataW.trod enc Try.prog W 0 (fun _ => true) true m0_2_5 9 [c0_2_5_4] = some y0_2_5_4 := by have h := hfl0_2_5 4 _ rfl; simpa [Value.cells, cellsstring] using h
  have g0_2_5_5 : DataW.trod enc Try.prog W 0 (fun _ => true) true m0_2_5 27 [c0_2_5_5] = some y0_2_5_5 := by have h := hfl0_2_5 5 _ rfl; simpa [Value.cells, cells__string] using h
  subst hx0_2_5
  obtain ⟨a0_2_5_0, ev0_2_5_0, ey0_2_5_0, w0_2_5_0⟩ := DataW.trod_int Try.underlying26 g0_2_5_0
  obtain rfl : c0_2_5_0 = _ := by simpa using ev0_2_5_0
  subst ey0_2_5_0
  obtain ⟨a0_2_5_1, ev0_2_5_1, ey0_2_5_1, w0_2_5_1⟩ := DataW.trod_int Try.underlying3 g0_2_5_1
  obtain rfl : c0_2_5_1 = _ := by simpa using ev0_2_5_1
  subst ey0_2_5_1
  obtain ⟨a0_2_5_2, ev0_2_5_2, ey0_2_5_2, w0_2_5_2⟩ := DataW.trod_int Try.underlying3 g0_2_5_2
  obtain rfl : c0_2_5_2 = _ := by simpa using ev0_2_5_2
  subst ey0_2_5_2
  obtain ⟨a0_2_5_3, ev0_2_5_3, ey0_2_5_3, w0_2_5_3⟩ := DataW.trod_int Try.underlying3 g0_2_5_3
  obtain rfl : c0_2_5_3 = _ := by simpa using ev0_2_5_3
  subst ey0_2_5_3
  obtain ⟨s0_2_5_4, ev0_2_5_4, ey0_2_5_4, w0_2_5_4⟩ := DataW.trod_string Try.underlying9 g0_2_5_4
  obtain rfl : c0_2_5_4 = _ := by simpa using ev0_2_5_4
  subst ey0_2_5_4
  have z0_2_5_4 : s0_2_5_4.data.toList.length ≤ 140737488351232 := sized_deep hsz (by rw [Try.params8]; simp [DataW.weightsEach, DataW.weights, Try.underlying59, Try.underlying25, Try.underlying23, Try.underlying25, Try.underlying23, Try.underlying31, Try.underlying29, Try.underlying31, Try.underlying29])
  obtain ⟨a0_2_5_4, rfl⟩ : ∃ l : List UInt8, s0_2_5_4 = ⟨l.toArray⟩ := ⟨s0_2_5_4.data.toList, rfl⟩
  have hw0_2_5_5 : ∀ n ∈ DataW.weights Try.prog 27 y0_2_5_5.1, n ≤ 140737488351232 := fun n hn => sized_deep hsz (by rw [Try.params8]; simp [DataW.weightsEach, DataW.weights, Try.underlying59, Try.underlying25, Try.underlying23, Try.underlying25, Try.underlying23, Try.underlying31, Try.underlying29, Try.underlying31, Try.underlying29, hn])
  obtain ⟨u0_2_5_5, a0_2_5_5, ev0_2_5_5, w0_2_5_5, e0_2_5_5⟩ := open_texts_at Try.underlying27 Try.underlying9 (by kernel_rfl) g0_2_5_5 (fun x hx => hlt x (by simp [hx]))
  obtain rfl : c0_2_5_5 = _ := by simpa using ev0_2_5_5
  have z0_2_5_5 := texts_sized Try.underlying27 (by kernel_rfl) e0_2_5_5 hw0_2_5_5
  obtain ⟨xs0_3, m0_3, _, hx0_3, _, hlen0_3, hfl0_3⟩ := DataW.trod_struct Try.underlying31 g0_3
  obtain ⟨y0_3_0, y0_3_1, y0_3_2, y0_3_3, y0_3_4, y0_3_5, rfl⟩ := list6 hlen0_3
  have g0_3_0 : DataW.trod enc Try.prog W 0 (fun _ => true) true m0_3 3 [c0_3_0] = some y0_3_0 := by have h := hfl0_3 0 _ rfl; simpa [Value.cells, cellsint] using h
  have g0_3_1 : DataW.trod enc Try.prog W 0 (fun _ => true) true m0_3 3 [c0_3_1] = some y0_3_1 := by have h := hfl0_3 1 _ rfl; simpa [Value.cells, cellsint] using h
  have g0_3_2 : DataW.trod enc Try.prog W 0 (fun _ => true) true m0_3 3 [c0_3_2] = some y0_3_2 := by have h := hfl0_3 2 _ rfl; simpa [Value.cells, cellsint] using h
  have g0_3_3 : DataW.trod enc Try.prog W 0 (fun _ => true) true m0_3 3 [c0_3_3] = some y0_3_3 := by have h := hfl0_3 3 _ rfl; simpa [Value.cells, cellsint] using h
  have g0_3_4 : DataW.trod enc Try.prog W 0 (fun _ => true) true m0_3 3 [c0_3_4] = some y0_3_4 := by have h := hfl0_3 4 _ rfl; simpa [Value.cells, cellsint] using h
  have g0_3_5 : DataW.trod enc Try.prog W 0 (fun _ => true) true m0_3 29 [c0_3_5_0, c0_3_5_1, c0_3_5_2, c0_3_5_3, c0_3_5_4, c0_3_5_5] = some y0_3_5 := by have h := hfl0_3 5 _ rfl; simpa [Value.cells, cellscopyhold_api_Reply] using h
  subst hx0_3
  obtain ⟨a0_3_0, ev0_3_0, ey0_3_0, w0_3_0⟩ := DataW.trod_int Try.underlying3 g0_3_0
  obtain rfl : c0_3_0 = _ := by simpa using ev0_3_0
  subst ey0_3_0
  obtain ⟨a0_3_1, ev0_3_1, ey0_3_1, w0_3_1⟩ := DataW.trod_int Try.underlying3 g0_3_1
  obtain rfl : c0_3_1 = _ := by simpa using ev0_3_1
  subst ey0_3_1
  obtain ⟨a0_3_2, ev0_3_2, ey0_3_2, w0_3_2⟩ := DataW.trod_int Try.underlying3 g0_3_2
  obtain rfl : c0_3_2 = _ := by simpa using ev0_3_2
  subst ey0_3_2
  obtain ⟨a0_3_3, ev0_3_3, ey0_3_3, w0_3_3⟩ := DataW.trod_int Try.underlying3 g0_3_3
  obtain rfl : c0_3_3 = _ := by simpa using ev0_3_3
  subst ey0_3_3
  obtain ⟨a0_3_4, ev0_3_4, ey0_3_4, w0_3_4⟩ := DataW.trod_int Try.underlying3 g0_3_4
  obtain rfl : c0_3_4 = _ := by simpa using ev0_3_4
  subst ey0_3_4
  obtain ⟨xs0_3_5, m0_3_5, _, hx0_3_5, _, hlen0_3_5, hfl0_3_5⟩ := DataW.trod_struct Try.underlying29 g0_3_5
  obtain ⟨y0_3_5_0, y0_3_5_1, y0_3_5_2, y0_3_5_3, y0_3_5_4, y0_3_5_5, rfl⟩ := list6 hlen0_3_5
  have g0_3_5_0 : DataW.trod enc Try.prog W 0 (fun _ => true) true m0_3_5 26 [c0_3_5_0] = some y0_3_5_0 := by have h := hfl0_3_5 0 _ rfl; simpa [Value.cells, cellscopyhold_api_Errno] using h
  have g0_3_5_1 : DataW.trod enc Try.prog W 0 (fun _ => true) true m0_3_5 3 [c0_3_5_1] = some y0_3_5_1 := by have h := hfl0_3_5 1 _ rfl; simpa [Value.cells, cellsint] using h
  have g0_3_5_2 : DataW.trod enc Try.prog W 0 (fun _ => true) true m0_3_5 3 [c0_3_5_2] = some y0_3_5_2 := by have h := hfl0_3_5 2 _ rfl; simpa [Value.cells, cellsint] using h
  have g0_3_5_3 : DataW.trod enc Try.prog W 0 (fun _ => true) true m0_3_5 3 [c0_3_5_3] = some y0_3_5_3 := by have h := hfl0_3_5 3 _ rfl; simpa [Value.cells, cellsint] using h
  have g0_3_5_4 : DataW.trod enc Try.prog W 0 (fun _ => true) true m0_3_5 9 [c0_3_5_4] = some y0_3_5_4 := by have h := hfl0_3_5 4 _ rfl; simpa [Value.cells, cellsstring] using h
  have g0_3_5_5 : DataW.trod enc Try.prog W 0 (fun _ => true) true m0_3_5 27 [c0_3_5_5] = some y0_3_5_5 := by have h := hfl0_3_5 5 _ rfl; simpa [Value.cells, cells__string] using h
  subst hx0_3_5
  obtain ⟨a0_3_5_0, ev0_3_5_0, ey0_3_5_0, w0_3_5_0⟩ := DataW.trod_int Try.underlying26 g0_3_5_0
  obtain rfl : c0_3_5_0 = _ := by simpa using ev0_3_5_0
  subst ey0_3_5_0
  obtain ⟨a0_3_5_1, ev0_3_5_1, ey0_3_5_1, w0_3_5_1⟩ := DataW.trod_int Try.underlying3 g0_3_5_1
  obtain rfl : c0_3_5_1 = _ := by simpa using ev0_3_5_1
  subst ey0_3_5_1
  obtain ⟨a0_3_5_2, ev0_3_5_2, ey0_3_5_2, w0_3_5_2⟩ := DataW.trod_int Try.underlying3 g0_3_5_2
  obtain rfl : c0_3_5_2 = _ := by simpa using ev0_3_5_2
  subst ey0_3_5_2
  obtain ⟨a0_3_5_3, ev0_3_5_3, ey0_3_5_3, w0_3_5_3⟩ := DataW.trod_int Try.underlying3 g0_3_5_3
  obtain rfl : c0_3_5_3 = _ := by simpa using ev0_3_5_3
  subst ey0_3_5_3
  obtain ⟨s0_3_5_4, ev0_3_5_4, ey0_3_5_4, w0_3_5_4⟩ := DataW.trod_string Try.underlying9 g0_3_5_4
  obtain rfl : c0_3_5_4 = _ := by simpa using ev0_3_5_4
  subst ey0_3_5_4
  have z0_3_5_4 : s0_3_5_4.data.toList.length ≤ 140737488351232 := sized_deep hsz (by rw [Try.params8]; simp [DataW.weightsEach, DataW.weights, Try.underlying59, Try.underlying25, Try.underlying23, Try.underlying25, Try.underlying23, Try.underlying31, Try.underlying29, Try.underlying31, Try.underlying29])
  obtain ⟨a0_3_5_4, rfl⟩ : ∃ l : List UInt8, s0_3_5_4 = ⟨l.toArray⟩ := ⟨s0_3_5_4.data.toList, rfl⟩
  have hw0_3_5_5 : ∀ n ∈ DataW.weights Try.prog 27 y0_3_5_5.1, n ≤ 140737488351232 := fun n hn => sized_deep hsz (by rw [Try.params8]; simp [DataW.weightsEach, DataW.weights, Try.underlying59, Try.underlying25, Try.underlying23, Try.underlying25, Try.underlying23, Try.underlying31, Try.underlying29, Try.underlying31, Try.underlying29, hn])
  obtain ⟨u0_3_5_5, a0_3_5_5, ev0_3_5_5, w0_3_5_5, e0_3_5_5⟩ := open_texts_at Try.underlying27 Try.underlying9 (by kernel_rfl) g0_3_5_5 (fun x hx => hlt x (by simp [hx]))
  obtain rfl : c0_3_5_5 = _ := by simpa using ev0_3_5_5
  have z0_3_5_5 := texts_sized Try.underlying27 (by kernel_rfl) e0_3_5_5 hw0_3_5_5
  refine (walk W a0_0_0 w0_0_0 a0_0_1 w0_0_1 a0_0_2 w0_0_2 a0_0_3 w0_0_3 a0_0_4 w0_0_4 a0_0_5 w0_0_5 a0_0_6_0 w0_0_6_0 a0_0_6_1 w0_0_6_1 a0_0_6_2 w0_0_6_2 a0_0_6_3 w0_0_6_3 a0_0_6_4 w0_0_6_4 a0_0_6_5 z0_0_6_5 a0_0_6_6 z0_0_6_6 a0_0_6_7 z0_0_6_7 a0_1_0 w0_1_0 a0_1_1 w0_1_1 a0_1_2 w0_1_2 a0_1_3 w0_1_3 a0_1_4 w0_1_4 a0_1_5 w0_1_5 a0_1_6_0 w0_1_6_0 a0_1_6_1 w0_1_6_1 a0_1_6_2 w0_1_6_2 a0_1_6_3 w0_1_6_3 a0_1_6_4 w0_1_6_4 a0_1_6_5 z0_1_6_5 a0_1_6_6 z0_1_6_6 a0_1_6_7 z0_1_6_7 a0_2_0 w0_2_0 a0_2_1 w0_2_1 a0_2_2 w0_2_2 a0_2_3 w0_2_3 a0_2_4 w0_2_4 a0_2_5_0 w0_2_5_0 a0_2_5_1 w0_2_5_1 a0_2_5_2 w0_2_5_2 a0_2_5_3 w0_2_5_3 a0_2_5_4 z0_2_5_4 c0_2_5_5 a0_2_5_5 w0_2_5_5 z0_2_5_5 a0_3_0 w0_3_0 a0_3_1 w0_3_1 a0_3_2 w0_3_2 a0_3_3 w0_3_3 a0_3_4 w0_3_4 a0_3_5_0 w0_3_5_0 a0_3_5_1 w0_3_5_1 a0_3_5_2 w0_3_5_2 a0_3_5_3 w0_3_5_3 a0_3_5_4 z0_3_5_4 c0_3_5_5 a0_3_5_5 w0_3_5_5 z0_3_5_5).mono fun e W' ⟨he, hg⟩ => ?_
  subst he
  exact ⟨_, rfl, Copyhold.law_post laidOut (by kernel_rfl) (by kernel_rfl) Try.underlying4 rfl rfl rfl rfl hW' hg⟩

theorem over : Rows.wireApartRow.holds Try.pinned (OpenSpec.ofChange Rows.wireApartSpec) :=
  OpenClaim.holds_of_wide 8 Try.f8 rfl rfl rfl rfl rfl rfl rfl ⟨rfl, rfl, rfl, rfl, rfl⟩ rfl rfl rfl rfl rfl (by kernel_rfl) Try.func8 (by kernel_rfl)
    (of_decide_eq_true (by kernel_rfl)) (by unfold Func.isWrapper; first | (rw [if_pos (by decide +kernel)]; kernel_rfl) | (rw [if_neg (by decide +kernel)]; exact ⟨rfl, rfl⟩))
    (fun os started H enc _ => lifted os started H enc)

theorem proved : Rows.WireApartSaid :=
  over
end Go.Proofs.Ytpojhcpkmpbflaa.wireApart
