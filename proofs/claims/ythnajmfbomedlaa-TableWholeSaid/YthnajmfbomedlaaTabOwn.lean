/- table.own: a client's row of an epoch, or why there is none; old memory is as it was. -/
import Derived.Test.YthnajmfbomedlaaTabSeq
set_option linter.unusedVariables false
namespace Go.Proofs.Ythnajmfbomedlaa
open Go.RowKit Copyhold

theorem placeN_true (ns : List Int) (n : Int) {i : Nat} (h : placeN ns n = (i, true)) : ∃ hi : i < ns.length, ns[i] = n := by
  induction ns generalizing i with
  | nil => simp [placeN] at h
  | cons m r ih =>
    rw [placeN] at h
    split at h
    · simp only [Prod.mk.injEq, beq_iff_eq] at h
      obtain ⟨rfl, h⟩ := h
      exact ⟨by simp, by simpa using h⟩
    · simp only [Prod.mk.injEq] at h
      obtain ⟨rfl, h⟩ := h
      obtain ⟨hi, he⟩ := ih (i := (placeN r n).1) (by rw [← h])
      exact ⟨by simp; omega, by simpa using he⟩

/-- what own answers where there is none -/
def OwnNo (w : World) (er : Int) (e : Ending) (w' : World) : Prop := e = .returned (.tuple #[.agg #[.int .i64 0, .int .i64 0, .int .i64 0, .slice none 0 0], .int .i64 er]) ∧ Below w.heap.size w w'

set_option maxHeartbeats 2000000 in
theorem own_arg1 (rs : List TRow) (A : Option Addr) (c : Nat) (n ep sq : Int) (w : World) (hr : RowsIn w (.slice A rs.length c) rs) (hn : rs.length ≤ 8796093022207) (n1 : -9223372036854775808 ≤ n) (n2 : n ≤ 9223372036854775807) (e1 : -9223372036854775808 ≤ ep) (e2 : ep ≤ 9223372036854775807) (s1 : -9223372036854775808 ≤ sq) (s2 : sq ≤ 9223372036854775807) (h : n < 0) :
    Calls Try.prog 27 #[.slice A rs.length c, .int .i64 n, .int .i64 ep, .int .i64 sq] w (OwnNo w 1) := by
  obtain ⟨W0, hW0⟩ : ∃ W0, W0 = w.alloc (.cells #[.int .i64 0, .int .i64 0, .int .i64 0, .slice none 0 0] 63) := ⟨_, rfl⟩
  have hb0 : Below w.heap.size w W0 := by rw [hW0]; exact (Below.refl _ _).alloc (Nat.le_refl _) _
  have r0 : W0.cell? ⟨w.heap.size, 0, none⟩ = some (.int .i64 0) := by rw [hW0]; exact cell_new _ _ _ 0
  have r1 : W0.cell? ⟨w.heap.size, 1, none⟩ = some (.int .i64 0) := by rw [hW0]; exact cell_new _ _ _ 1
  have r2 : W0.cell? ⟨w.heap.size, 2, none⟩ = some (.int .i64 0) := by rw [hW0]; exact cell_new _ _ _ 2
  have r3 : W0.cell? ⟨w.heap.size, 3, none⟩ = some (.slice none 0 0) := by rw [hW0]; exact cell_new _ _ _ 3
  have fz : ∀ j, W0.frozen? ⟨w.heap.size, j, none⟩ = false := fun j => by rw [hW0]; simp [go_sem]
  have hs0 : W0.heap.size = w.heap.size + 1 := by rw [hW0]; simp
  have HR := Lib.hid (hr.below hb0)
  have HW := Lib.hid hW0
  have HB0 := Lib.hid hb0
  clear hr hW0 hb0
  go_enter Try.func27, Try.ntmps27
  go_wp2_with fail
  rw [← HW.out]
  refine (table_rowOf rs _ c n _ HR.out hn n1 n2).mono ?_
  rintro e w1 ⟨rfl, hb1⟩
  have q0 := cell_keep hb1 r0
  have q1 := cell_keep hb1 r1
  have q2 := cell_keep hb1 r2
  have q3 := cell_keep hb1 r3
  have hf := fun j => (bcell hb1).2 w.heap.size j (by rw [hs0]; omega)
  have f0 := (hf 0).trans (fz 0)
  have f1 := (hf 1).trans (fz 1)
  have f2 := (hf 2).trans (fz 2)
  have f3 := (hf 3).trans (fz 3)
  have HB1 := Lib.hid (below_trans HB0.out hb1 HB0.out.size)
  generalize placeN (rs.map (·.client)) n = pl
  obtain ⟨pi, pt⟩ := pl
  simp only
  clear hf fz r0 r1 r2 r3 hb1
  go_wp2_with fail
  refine bodyPost_ret (v := .tuple #[.agg #[.int .i64 0, .int .i64 0, .int .i64 0, .slice none 0 0], .int .i64 1]) (by simp [results, Try.results27, go_sem, q0, q1, q2, q3]) rfl ⟨rfl, ?_⟩
  repeat (first | exact HB1.out | (refine Below.setCell ?_ (by simp <;> omega) _))

set_option maxHeartbeats 2000000 in
theorem own_arg2 (rs : List TRow) (A : Option Addr) (c : Nat) (n ep sq : Int) (w : World) (hr : RowsIn w (.slice A rs.length c) rs) (hn : rs.length ≤ 8796093022207) (n1 : -9223372036854775808 ≤ n) (n2 : n ≤ 9223372036854775807) (e1 : -9223372036854775808 ≤ ep) (e2 : ep ≤ 9223372036854775807) (s1 : -9223372036854775808 ≤ sq) (s2 : sq ≤ 9223372036854775807) (h : 0 ≤ n) (h2 : ep < 1) :
    Calls Try.prog 27 #[.slice A rs.length c, .int .i64 n, .int .i64 ep, .int .i64 sq] w (OwnNo w 1) := by
  obtain ⟨W0, hW0⟩ : ∃ W0, W0 = w.alloc (.cells #[.int .i64 0, .int .i64 0, .int .i64 0, .slice none 0 0] 63) := ⟨_, rfl⟩
  have hb0 : Below w.heap.size w W0 := by rw [hW0]; exact (Below.refl _ _).alloc (Nat.le_refl _) _
  have r0 : W0.cell? ⟨w.heap.size, 0, none⟩ = some (.int .i64 0) := by rw [hW0]; exact cell_new _ _ _ 0
  have r1 : W0.cell? ⟨w.heap.size, 1, none⟩ = some (.int .i64 0) := by rw [hW0]; exact cell_new _ _ _ 1
  have r2 : W0.cell? ⟨w.heap.size, 2, none⟩ = some (.int .i64 0) := by rw [hW0]; exact cell_new _ _ _ 2
  have r3 : W0.cell? ⟨w.heap.size, 3, none⟩ = some (.slice none 0 0) := by rw [hW0]; exact cell_new _ _ _ 3
  have fz : ∀ j, W0.frozen? ⟨w.heap.size, j, none⟩ = false := fun j => by rw [hW0]; simp [go_sem]
  have hs0 : W0.heap.size = w.heap.size + 1 := by rw [hW0]; simp
  have HR := Lib.hid (hr.below hb0)
  have HW := Lib.hid hW0
  have HB0 := Lib.hid hb0
  clear hr hW0 hb0
  go_enter Try.func27, Try.ntmps27
  go_wp2_with fail
  rw [← HW.out]
  refine (table_rowOf rs _ c n _ HR.out hn n1 n2).mono ?_
  rintro e w1 ⟨rfl, hb1⟩
  have q0 := cell_keep hb1 r0
  have q1 := cell_keep hb1 r1
  have q2 := cell_keep hb1 r2
  have q3 := cell_keep hb1 r3
  have hf := fun j => (bcell hb1).2 w.heap.size j (by rw [hs0]; omega)
  have f0 := (hf 0).trans (fz 0)
  have f1 := (hf 1).trans (fz 1)
  have f2 := (hf 2).trans (fz 2)
  have f3 := (hf 3).trans (fz 3)
  have HB1 := Lib.hid (below_trans HB0.out hb1 HB0.out.size)
  generalize placeN (rs.map (·.client)) n = pl
  obtain ⟨pi, pt⟩ := pl
  simp only
  clear hf fz r0 r1 r2 r3 hb1
  go_wp2_with fail
  refine bodyPost_ret (v := .tuple #[.agg #[.int .i64 0, .int .i64 0, .int .i64 0, .slice none 0 0], .int .i64 1]) (by simp [results, Try.results27, go_sem, q0, q1, q2, q3]) rfl ⟨rfl, ?_⟩
  repeat (first | exact HB1.out | (refine Below.setCell ?_ (by simp <;> omega) _))

set_option maxHeartbeats 2000000 in
theorem own_arg3 (rs : List TRow) (A : Option Addr) (c : Nat) (n ep sq : Int) (w : World) (hr : RowsIn w (.slice A rs.length c) rs) (hn : rs.length ≤ 8796093022207) (n1 : -9223372036854775808 ≤ n) (n2 : n ≤ 9223372036854775807) (e1 : -9223372036854775808 ≤ ep) (e2 : ep ≤ 9223372036854775807) (s1 : -9223372036854775808 ≤ sq) (s2 : sq ≤ 9223372036854775807) (h : 0 ≤ n) (h2 : 1 ≤ ep) (h3 : sq < 1) :
    Calls Try.prog 27 #[.slice A rs.length c, .int .i64 n, .int .i64 ep, .int .i64 sq] w (OwnNo w 1) := by
  obtain ⟨W0, hW0⟩ : ∃ W0, W0 = w.alloc (.cells #[.int .i64 0, .int .i64 0, .int .i64 0, .slice none 0 0] 63) := ⟨_, rfl⟩
  have hb0 : Below w.heap.size w W0 := by rw [hW0]; exact (Below.refl _ _).alloc (Nat.le_refl _) _
  have r0 : W0.cell? ⟨w.heap.size, 0, none⟩ = some (.int .i64 0) := by rw [hW0]; exact cell_new _ _ _ 0
  have r1 : W0.cell? ⟨w.heap.size, 1, none⟩ = some (.int .i64 0) := by rw [hW0]; exact cell_new _ _ _ 1
  have r2 : W0.cell? ⟨w.heap.size, 2, none⟩ = some (.int .i64 0) := by rw [hW0]; exact cell_new _ _ _ 2
  have r3 : W0.cell? ⟨w.heap.size, 3, none⟩ = some (.slice none 0 0) := by rw [hW0]; exact cell_new _ _ _ 3
  have fz : ∀ j, W0.frozen? ⟨w.heap.size, j, none⟩ = false := fun j => by rw [hW0]; simp [go_sem]
  have hs0 : W0.heap.size = w.heap.size + 1 := by rw [hW0]; simp
  have HR := Lib.hid (hr.below hb0)
  have HW := Lib.hid hW0
  have HB0 := Lib.hid hb0
  clear hr hW0 hb0
  go_enter Try.func27, Try.ntmps27
  go_wp2_with fail
  rw [← HW.out]
  refine (table_rowOf rs _ c n _ HR.out hn n1 n2).mono ?_
  rintro e w1 ⟨rfl, hb1⟩
  have q0 := cell_keep hb1 r0
  have q1 := cell_keep hb1 r1
  have q2 := cell_keep hb1 r2
  have q3 := cell_keep hb1 r3
  have hf := fun j => (bcell hb1).2 w.heap.size j (by rw [hs0]; omega)
  have f0 := (hf 0).trans (fz 0)
  have f1 := (hf 1).trans (fz 1)
  have f2 := (hf 2).trans (fz 2)
  have f3 := (hf 3).trans (fz 3)
  have HB1 := Lib.hid (below_trans HB0.out hb1 HB0.out.size)
  generalize placeN (rs.map (·.client)) n = pl
  obtain ⟨pi, pt⟩ := pl
  simp only
  clear hf fz r0 r1 r2 r3 hb1
  go_wp2_with fail
  refine bodyPost_ret (v := .tuple #[.agg #[.int .i64 0, .int .i64 0, .int .i64 0, .slice none 0 0], .int .i64 1]) (by simp [results, Try.results27, go_sem, q0, q1, q2, q3]) rfl ⟨rfl, ?_⟩
  repeat (first | exact HB1.out | (refine Below.setCell ?_ (by simp <;> omega) _))

set_option maxHeartbeats 2000000 in
theorem own_none (rs : List TRow) (A : Option Addr) (c : Nat) (n ep sq : Int) (w : World) (hr : RowsIn w (.slice A rs.length c) rs) (hn : rs.length ≤ 8796093022207) (n1 : -9223372036854775808 ≤ n) (n2 : n ≤ 9223372036854775807) (e1 : -9223372036854775808 ≤ ep) (e2 : ep ≤ 9223372036854775807) (s1 : -9223372036854775808 ≤ sq) (s2 : sq ≤ 9223372036854775807) (h : 0 ≤ n) (h2 : 1 ≤ ep) (h3 : 1 ≤ sq) (i : Nat) (HP : Hid (placeN (rs.map (·.client)) n = (i, false))) :
    Calls Try.prog 27 #[.slice A rs.length c, .int .i64 n, .int .i64 ep, .int .i64 sq] w (OwnNo w 6) := by
  obtain ⟨W0, hW0⟩ : ∃ W0, W0 = w.alloc (.cells #[.int .i64 0, .int .i64 0, .int .i64 0, .slice none 0 0] 63) := ⟨_, rfl⟩
  have hb0 : Below w.heap.size w W0 := by rw [hW0]; exact (Below.refl _ _).alloc (Nat.le_refl _) _
  have r0 : W0.cell? ⟨w.heap.size, 0, none⟩ = some (.int .i64 0) := by rw [hW0]; exact cell_new _ _ _ 0
  have r1 : W0.cell? ⟨w.heap.size, 1, none⟩ = some (.int .i64 0) := by rw [hW0]; exact cell_new _ _ _ 1
  have r2 : W0.cell? ⟨w.heap.size, 2, none⟩ = some (.int .i64 0) := by rw [hW0]; exact cell_new _ _ _ 2
  have r3 : W0.cell? ⟨w.heap.size, 3, none⟩ = some (.slice none 0 0) := by rw [hW0]; exact cell_new _ _ _ 3
  have fz : ∀ j, W0.frozen? ⟨w.heap.size, j, none⟩ = false := fun j => by rw [hW0]; simp [go_sem]
  have hs0 : W0.heap.size = w.heap.size + 1 := by rw [hW0]; simp
  have HR := Lib.hid (hr.below hb0)
  have HW := Lib.hid hW0
  have HB0 := Lib.hid hb0
  clear hr hW0 hb0
  go_enter Try.func27, Try.ntmps27
  go_wp2_with fail
  rw [← HW.out]
  refine (table_rowOf rs _ c n _ HR.out hn n1 n2).mono ?_
  rintro e w1 ⟨rfl, hb1⟩
  have q0 := cell_keep hb1 r0
  have q1 := cell_keep hb1 r1
  have q2 := cell_keep hb1 r2
  have q3 := cell_keep hb1 r3
  have hf := fun j => (bcell hb1).2 w.heap.size j (by rw [hs0]; omega)
  have f0 := (hf 0).trans (fz 0)
  have f1 := (hf 1).trans (fz 1)
  have f2 := (hf 2).trans (fz 2)
  have f3 := (hf 3).trans (fz 3)
  have HB1 := Lib.hid (below_trans HB0.out hb1 HB0.out.size)
  rw [HP.out]
  simp only
  clear hf fz r0 r1 r2 r3 hb1
  go_wp2_with fail
  refine bodyPost_ret (v := .tuple #[.agg #[.int .i64 0, .int .i64 0, .int .i64 0, .slice none 0 0], .int .i64 6]) (by simp [results, Try.results27, go_sem, q0, q1, q2, q3]) rfl ⟨rfl, ?_⟩
  repeat (first | exact HB1.out | (refine Below.setCell ?_ (by simp <;> omega) _))

set_option maxHeartbeats 2000000 in
theorem own_stale (rs : List TRow) (A : Option Addr) (c : Nat) (n ep sq : Int) (w : World) (hr : RowsIn w (.slice A rs.length c) rs) (hn : rs.length ≤ 8796093022207) (n1 : -9223372036854775808 ≤ n) (n2 : n ≤ 9223372036854775807) (e1 : -9223372036854775808 ≤ ep) (e2 : ep ≤ 9223372036854775807) (s1 : -9223372036854775808 ≤ sq) (s2 : sq ≤ 9223372036854775807) (h : 0 ≤ n) (h2 : 1 ≤ ep) (h3 : 1 ≤ sq) (i : Nat) (HP : Hid (placeN (rs.map (·.client)) n = (i, true))) (x : Int) (HX : Hid (rs[i]?.map (·.epoch) = some x)) (hx : ep < x) :
    Calls Try.prog 27 #[.slice A rs.length c, .int .i64 n, .int .i64 ep, .int .i64 sq] w (OwnNo w 17) := by
  obtain ⟨W0, hW0⟩ : ∃ W0, W0 = w.alloc (.cells #[.int .i64 0, .int .i64 0, .int .i64 0, .slice none 0 0] 63) := ⟨_, rfl⟩
  have hb0 : Below w.heap.size w W0 := by rw [hW0]; exact (Below.refl _ _).alloc (Nat.le_refl _) _
  have r0 : W0.cell? ⟨w.heap.size, 0, none⟩ = some (.int .i64 0) := by rw [hW0]; exact cell_new _ _ _ 0
  have r1 : W0.cell? ⟨w.heap.size, 1, none⟩ = some (.int .i64 0) := by rw [hW0]; exact cell_new _ _ _ 1
  have r2 : W0.cell? ⟨w.heap.size, 2, none⟩ = some (.int .i64 0) := by rw [hW0]; exact cell_new _ _ _ 2
  have r3 : W0.cell? ⟨w.heap.size, 3, none⟩ = some (.slice none 0 0) := by rw [hW0]; exact cell_new _ _ _ 3
  have fz : ∀ j, W0.frozen? ⟨w.heap.size, j, none⟩ = false := fun j => by rw [hW0]; simp [go_sem]
  have hs0 : W0.heap.size = w.heap.size + 1 := by rw [hW0]; simp
  have HR := Lib.hid (hr.below hb0)
  have HW := Lib.hid hW0
  have HB0 := Lib.hid hb0
  clear hr hW0 hb0
  obtain ⟨hil, _⟩ := placeN_true _ _ HP.out
  rw [List.length_map] at hil
  obtain ⟨b, off, A', c', rfl, hbk, k0, k1, k2, k3, hsl, hll, _, ⟨x1, x2⟩, _⟩ := HR.out.at i hil
  have hxe : rs[i].epoch = x := by have := HX.out; rw [List.getElem?_eq_getElem hil] at this; simpa using this
  rw [hxe] at k1
  clear hxe
  go_enter Try.func27, Try.ntmps27
  go_wp2_with fail
  rw [← HW.out]
  refine (table_rowOf rs _ c n _ HR.out hn n1 n2).mono ?_
  rintro e w1 ⟨rfl, hb1⟩
  have q0 := cell_keep hb1 r0
  have q1 := cell_keep hb1 r1
  have q2 := cell_keep hb1 r2
  have q3 := cell_keep hb1 r3
  have hf := fun j => (bcell hb1).2 w.heap.size j (by rw [hs0]; omega)
  have f0 := (hf 0).trans (fz 0)
  have f1 := (hf 1).trans (fz 1)
  have f2 := (hf 2).trans (fz 2)
  have f3 := (hf 3).trans (fz 3)
  have HB1 := Lib.hid (below_trans HB0.out hb1 HB0.out.size)
  rw [HP.out]
  simp only
  have k1 := cell_keep hb1 k1
  clear k0 k2 k3 hsl
  clear hf fz r0 r1 r2 r3 hb1
  go_wp2_with fail
  refine bodyPost_ret (v := .tuple #[.agg #[.int .i64 0, .int .i64 0, .int .i64 0, .slice none 0 0], .int .i64 17]) (by simp [results, Try.results27, go_sem, q0, q1, q2, q3]) rfl ⟨rfl, ?_⟩
  repeat (first | exact HB1.out | (refine Below.setCell ?_ (by simp <;> omega) _))

set_option maxHeartbeats 2000000 in
theorem own_old (rs : List TRow) (A : Option Addr) (c : Nat) (n ep sq : Int) (w : World) (hr : RowsIn w (.slice A rs.length c) rs) (hn : rs.length ≤ 8796093022207) (n1 : -9223372036854775808 ≤ n) (n2 : n ≤ 9223372036854775807) (e1 : -9223372036854775808 ≤ ep) (e2 : ep ≤ 9223372036854775807) (s1 : -9223372036854775808 ≤ sq) (s2 : sq ≤ 9223372036854775807) (h : 0 ≤ n) (h2 : 1 ≤ ep) (h3 : 1 ≤ sq) (i : Nat) (HP : Hid (placeN (rs.map (·.client)) n = (i, true))) (x : Int) (HX : Hid (rs[i]?.map (·.epoch) = some x)) (hx : x < ep) :
    Calls Try.prog 27 #[.slice A rs.length c, .int .i64 n, .int .i64 ep, .int .i64 sq] w (OwnNo w 6) := by
  obtain ⟨W0, hW0⟩ : ∃ W0, W0 = w.alloc (.cells #[.int .i64 0, .int .i64 0, .int .i64 0, .slice none 0 0] 63) := ⟨_, rfl⟩
  have hb0 : Below w.heap.size w W0 := by rw [hW0]; exact (Below.refl _ _).alloc (Nat.le_refl _) _
  have r0 : W0.cell? ⟨w.heap.size, 0, none⟩ = some (.int .i64 0) := by rw [hW0]; exact cell_new _ _ _ 0
  have r1 : W0.cell? ⟨w.heap.size, 1, none⟩ = some (.int .i64 0) := by rw [hW0]; exact cell_new _ _ _ 1
  have r2 : W0.cell? ⟨w.heap.size, 2, none⟩ = some (.int .i64 0) := by rw [hW0]; exact cell_new _ _ _ 2
  have r3 : W0.cell? ⟨w.heap.size, 3, none⟩ = some (.slice none 0 0) := by rw [hW0]; exact cell_new _ _ _ 3
  have fz : ∀ j, W0.frozen? ⟨w.heap.size, j, none⟩ = false := fun j => by rw [hW0]; simp [go_sem]
  have hs0 : W0.heap.size = w.heap.size + 1 := by rw [hW0]; simp
  have HR := Lib.hid (hr.below hb0)
  have HW := Lib.hid hW0
  have HB0 := Lib.hid hb0
  clear hr hW0 hb0
  obtain ⟨hil, _⟩ := placeN_true _ _ HP.out
  rw [List.length_map] at hil
  obtain ⟨b, off, A', c', rfl, hbk, k0, k1, k2, k3, hsl, hll, _, ⟨x1, x2⟩, _⟩ := HR.out.at i hil
  have hxe : rs[i].epoch = x := by have := HX.out; rw [List.getElem?_eq_getElem hil] at this; simpa using this
  rw [hxe] at k1
  clear hxe
  go_enter Try.func27, Try.ntmps27
  go_wp2_with fail
  rw [← HW.out]
  refine (table_rowOf rs _ c n _ HR.out hn n1 n2).mono ?_
  rintro e w1 ⟨rfl, hb1⟩
  have q0 := cell_keep hb1 r0
  have q1 := cell_keep hb1 r1
  have q2 := cell_keep hb1 r2
  have q3 := cell_keep hb1 r3
  have hf := fun j => (bcell hb1).2 w.heap.size j (by rw [hs0]; omega)
  have f0 := (hf 0).trans (fz 0)
  have f1 := (hf 1).trans (fz 1)
  have f2 := (hf 2).trans (fz 2)
  have f3 := (hf 3).trans (fz 3)
  have HB1 := Lib.hid (below_trans HB0.out hb1 HB0.out.size)
  rw [HP.out]
  simp only
  have k1 := cell_keep hb1 k1
  clear k0 k2 k3 hsl
  clear hf fz r0 r1 r2 r3 hb1
  go_wp2_with fail
  refine bodyPost_ret (v := .tuple #[.agg #[.int .i64 0, .int .i64 0, .int .i64 0, .slice none 0 0], .int .i64 6]) (by simp [results, Try.results27, go_sem, q0, q1, q2, q3]) rfl ⟨rfl, ?_⟩
  repeat (first | exact HB1.out | (refine Below.setCell ?_ (by simp <;> omega) _))

end Go.Proofs.Ythnajmfbomedlaa
