/- Proved: copyholdlaw15.WireOne returns true for every message, answer, place and byte, and leaves them as they were: a message, or an answer, that differs in one byte is not taken. No condition beyond the form's own reach, up to 1048576 bytes in the texts and texts in the rows together. -/
import Derived.Test.YtpojhcpkmpbflaaWireLawK
import Derived.Test.YtpojhcpkmpbflaaWireTk5
import Derived.Test.YtpojhcpkmpbflaaRef15S
import Derived.Test.YtpojhcpkmpbflaaRefLong
import Derived.Test.YtpojhcpkmpbflaaLaw50
import Derived.Test.YtpojhcpkmpbflaaBulk
import Derived.Test.YtpojhcpkmpbflaaBts
namespace Go.Proofs.Ytpojhcpkmpbflaa.wireOne
open Go.ChangeShapes Go.WideShapes Go.ChangeAt Go.RowKit Copyhold
open Go.ChangeMaps (open_string shut_string)
set_option linter.unusedVariables false
set_option linter.unusedSimpArgs false

theorem longK_small (ls : List (List UInt8)) (h : (ls.map List.length).sum + ls.length ≤ 1048576) : longK ls ls.length = ((ls.map List.length).sum + ls.length : Nat) := by
  have key : ∀ k, k ≤ ls.length → longK ls k = (((ls.take k).map List.length).sum + ls.length : Nat) := by
    intro k
    induction k with
    | zero => intro _; simp [longK]
    | succ k ih =>
      intro hk
      have hlt : k < ls.length := by omega
      have hst : ((ls.take (k + 1)).map List.length).sum = ((ls.take k).map List.length).sum + ls[k].length := by
        rw [List.take_succ_eq_append_getElem hlt, List.map_append, List.sum_append]; simp
      have hle : ((ls.take (k + 1)).map List.length).sum ≤ (ls.map List.length).sum := by
        have := List.take_append_drop (k + 1) ls
        have e : (ls.map List.length).sum = ((ls.take (k + 1)).map List.length).sum + ((ls.drop (k + 1)).map List.length).sum := by
          rw [← List.sum_append, ← List.map_append, this]
        omega
      rw [longK, ih (by omega), hst]
      have hg : (ls.getD k []).length = ls[k].length := by simp [List.getD, hlt]
      rw [hg]
      unfold wrap64
      omega
  have := key ls.length (Nat.le_refl _)
  rw [List.take_length] at this
  exact this

set_option maxRecDepth 100000 in
set_option maxHeartbeats 32000000 in
theorem walk (w : World) (m1 : Int) (wm1 : (Lit.int .i64 m1).wf = true) (m2 : Int) (wm2 : (Lit.int .i64 m2).wf = true) (m3 : Int) (wm3 : (Lit.int .i64 m3).wf = true) (m4 : Int) (wm4 : (Lit.int .i64 m4).wf = true) (m5 : Int) (wm5 : (Lit.int .i64 m5).wf = true) (m6 : Int) (wm6 : (Lit.int .i64 m6).wf = true) (k1 : Int) (wk1 : (Lit.int .i64 k1).wf = true) (k2 : Int) (wk2 : (Lit.int .i64 k2).wf = true) (k3 : Int) (wk3 : (Lit.int .i64 k3).wf = true) (k4 : Int) (wk4 : (Lit.int .i64 k4).wf = true) (k5 : Int) (wk5 : (Lit.int .i64 k5).wf = true) (t1 : List UInt8) (zt1 : t1.length ≤ 1048576) (t2 : List UInt8) (zt2 : t2.length ≤ 1048576) (t3 : List UInt8) (zt3 : t3.length ≤ 1048576) (r1 : Int) (wr1 : (Lit.int .i64 r1).wf = true) (r2 : Int) (wr2 : (Lit.int .i64 r2).wf = true) (r3 : Int) (wr3 : (Lit.int .i64 r3).wf = true) (r4 : Int) (wr4 : (Lit.int .i64 r4).wf = true) (r5 : Int) (wr5 : (Lit.int .i64 r5).wf = true) (r6 : Int) (wr6 : (Lit.int .i64 r6).wf = true) (r7 : Int) (wr7 : (Lit.int .i64 r7).wf = true) (r8 : Int) (wr8 : (Lit.int .i64 r8).wf = true) (r9 : Int) (wr9 : (Lit.int .i64 r9).wf = true) (tx : List UInt8) (ztx : tx.length ≤ 1048576) (nv : Value) (ls : List (List UInt8)) (hrow : Row w nv (ls.map strV)) (hls : (ls.map List.length).sum + ls.length ≤ 1048576) (at' : Int) (wa : (Lit.int .i64 at').wf = true) (by' : Int) (wy : (Lit.int .u8 by').wf = true) :
    Calls Try.prog 6 #[.agg #[.int .i64 m1, .int .i64 m2, .int .i64 m3, .int .i64 m4, .int .i64 m5, .int .i64 m6, .int .i64 k1, .int .i64 k2, .int .i64 k3, .int .i64 k4, .int .i64 k5, .string ⟨t1.toArray⟩, .string ⟨t2.toArray⟩, .string ⟨t3.toArray⟩, .int .i64 r1, .int .i64 r2, .int .i64 r3, .int .i64 r4, .int .i64 r5, .int .i64 r6, .int .i64 r7, .int .i64 r8, .int .i64 r9, .string ⟨tx.toArray⟩, nv, .int .i64 at', .int .u8 by']] w fun e w' => e = .returned (.bool true) ∧ Below w.heap.size w w' := by
  obtain ⟨A, cp, rfl⟩ := hrow.shape
  rw [List.length_map] at hrow ⊢
  have im : I64 m1 ∧ I64 m2 ∧ I64 m3 ∧ I64 m4 ∧ I64 m5 ∧ I64 m6 := ⟨i64_of wm1, i64_of wm2, i64_of wm3, i64_of wm4, i64_of wm5, i64_of wm6⟩
  have ik : I64 k1 ∧ I64 k2 ∧ I64 k3 ∧ I64 k4 ∧ I64 k5 := ⟨i64_of wk1, i64_of wk2, i64_of wk3, i64_of wk4, i64_of wk5⟩
  have ir : I64 r1 ∧ I64 r2 ∧ I64 r3 ∧ I64 r4 ∧ I64 r5 ∧ I64 r6 ∧ I64 r7 ∧ I64 r8 ∧ I64 r9 := ⟨i64_of wr1, i64_of wr2, i64_of wr3, i64_of wr4, i64_of wr5, i64_of wr6, i64_of wr7, i64_of wr8, i64_of wr9⟩
  have HI := Lib.hid (And.intro im ir)
  have b1 := i64_of wa
  have b2 : 0 ≤ by' ∧ by' ≤ 255 := by simpa [Lit.wf, IntKind.min, IntKind.max, IntKind.signed, IntKind.bits] using wy
  obtain ⟨b10, b11⟩ : -9223372036854775808 ≤ at' ∧ at' ≤ 9223372036854775807 := b1
  obtain ⟨b20, b21⟩ := b2
  have hok := fun h => short_ok (c := ⟨k1, k2, k3, k4, k5, t1, t2, t3⟩) h ik
  have HSH := Lib.hid (fun W => law_short ⟨k1, k2, k3, k4, k5, t1, t2, t3⟩ W (by simp only; omega) (by simp only; omega) (by simp only; omega))
  unfold callV at HSH
  simp only at HSH
  have HLG := Lib.hid (fun v W hv => ref_LongAny v ls W hv (by omega))
  have hLs := longK_small ls hls
  rw [hLs] at HLG
  have HLS := Lib.hid hls
  generalize hLn : (ls.map List.length).sum + ls.length = L at *
  have HLN := Lib.hid hLn
  have HWR := Lib.hid (show IntKind.i64.wrap ((tx.length : Int) + (L : Int)) = (tx.length : Int) + (L : Int) from by simp [IntKind.wrap, IntKind.signed, IntKind.bits]; omega)
  clear im ik ir hLs hLn wa wy wm1 wm2 wm3 wm4 wm5 wm6 wk1 wk2 wk3 wk4 wk5 wr1 wr2 wr3 wr4 wr5 wr6 wr7 wr8 wr9
  cases hsa : shortC ⟨k1, k2, k3, k4, k5, t1, t2, t3⟩ with
  | false =>
    have HA := Lib.hid hsa
    clear hok hsa
    obtain ⟨wu1, hu1⟩ : ∃ u, u = w.alloc (.cells #[.int .i64 m1, .int .i64 m2, .int .i64 m3, .int .i64 m4, .int .i64 m5, .int .i64 m6, .int .i64 k1, .int .i64 k2, .int .i64 k3, .int .i64 k4, .int .i64 k5, .string ⟨t1.toArray⟩, .string ⟨t2.toArray⟩, .string ⟨t3.toArray⟩, .int .i64 r1, .int .i64 r2, .int .i64 r3, .int .i64 r4, .int .i64 r5, .int .i64 r6, .int .i64 r7, .int .i64 r8, .int .i64 r9, .string ⟨tx.toArray⟩, .slice A ls.length cp, .int .i64 at', .int .u8 by'] 55) := ⟨_, rfl⟩
    have su1 : wu1.heap.size = w.heap.size + 1 := by rw [hu1]; simp
    have tu1 : TBox wu1 (w.heap.size) 55 #[.int .i64 m1, .int .i64 m2, .int .i64 m3, .int .i64 m4, .int .i64 m5, .int .i64 m6, .int .i64 k1, .int .i64 k2, .int .i64 k3, .int .i64 k4, .int .i64 k5, .string ⟨t1.toArray⟩, .string ⟨t2.toArray⟩, .string ⟨t3.toArray⟩, .int .i64 r1, .int .i64 r2, .int .i64 r3, .int .i64 r4, .int .i64 r5, .int .i64 r6, .int .i64 r7, .int .i64 r8, .int .i64 r9, .string ⟨tx.toArray⟩, .slice A ls.length cp, .int .i64 at', .int .u8 by'] := by rw [hu1]; exact TBox.new _ _ _
    have bu1 : Below w.heap.size w wu1 := by rw [hu1]; exact (Below.refl _ _).alloc (Nat.le_refl _) _
    have BU1 := bu1
    obtain ⟨wu2, hu2⟩ : ∃ u, u = wu1.alloc (.cells #[.int .i64 m1, .int .i64 m2, .int .i64 m3, .int .i64 m4, .int .i64 m5, .int .i64 m6, .int .i64 k1, .int .i64 k2, .int .i64 k3, .int .i64 k4, .int .i64 k5, .string ⟨t1.toArray⟩, .string ⟨t2.toArray⟩, .string ⟨t3.toArray⟩] 25) := ⟨_, rfl⟩
    have su2 : wu2.heap.size = w.heap.size + 2 := by rw [hu2]; simp [su1]
    have tu2 : TBox wu2 (w.heap.size + 1) 25 #[.int .i64 m1, .int .i64 m2, .int .i64 m3, .int .i64 m4, .int .i64 m5, .int .i64 m6, .int .i64 k1, .int .i64 k2, .int .i64 k3, .int .i64 k4, .int .i64 k5, .string ⟨t1.toArray⟩, .string ⟨t2.toArray⟩, .string ⟨t3.toArray⟩] := by rw [hu2, ← su1]; exact TBox.new _ _ _
    have bu2 : Below wu1.heap.size wu1 wu2 := by rw [hu2]; exact (Below.refl _ _).alloc (Nat.le_refl _) _
    have BU2 := below_trans BU1 bu2 BU1.size
    obtain ⟨wu3, hu3⟩ : ∃ u, u = wu2.alloc (.cells #[.int .i64 r1, .int .i64 r2, .int .i64 r3, .int .i64 r4, .int .i64 r5, .int .i64 r6, .int .i64 r7, .int .i64 r8, .int .i64 r9, .string ⟨tx.toArray⟩, .slice A ls.length cp] 31) := ⟨_, rfl⟩
    have su3 : wu3.heap.size = w.heap.size + 3 := by rw [hu3]; simp [su2]
    have tu3 : TBox wu3 (w.heap.size + 2) 31 #[.int .i64 r1, .int .i64 r2, .int .i64 r3, .int .i64 r4, .int .i64 r5, .int .i64 r6, .int .i64 r7, .int .i64 r8, .int .i64 r9, .string ⟨tx.toArray⟩, .slice A ls.length cp] := by rw [hu3, ← su2]; exact TBox.new _ _ _
    have bu3 : Below wu2.heap.size wu2 wu3 := by rw [hu3]; exact (Below.refl _ _).alloc (Nat.le_refl _) _
    have BU3 := below_trans BU2 bu3 BU2.size
    have Hs0 := Lib.hid ((tu1.below bu2).below bu3)
    have Ha0 := Lib.hid (tu2.below bu3)
    have Hr0 := Lib.hid tu3
    have BW_0 := Lib.hid BU3
    have HW : Hid (wu3 = (((w.alloc (.cells #[.int .i64 m1, .int .i64 m2, .int .i64 m3, .int .i64 m4, .int .i64 m5, .int .i64 m6, .int .i64 k1, .int .i64 k2, .int .i64 k3, .int .i64 k4, .int .i64 k5, .string ⟨t1.toArray⟩, .string ⟨t2.toArray⟩, .string ⟨t3.toArray⟩, .int .i64 r1, .int .i64 r2, .int .i64 r3, .int .i64 r4, .int .i64 r5, .int .i64 r6, .int .i64 r7, .int .i64 r8, .int .i64 r9, .string ⟨tx.toArray⟩, .slice A ls.length cp, .int .i64 at', .int .u8 by'] 55)).alloc (.cells #[.int .i64 m1, .int .i64 m2, .int .i64 m3, .int .i64 m4, .int .i64 m5, .int .i64 m6, .int .i64 k1, .int .i64 k2, .int .i64 k3, .int .i64 k4, .int .i64 k5, .string ⟨t1.toArray⟩, .string ⟨t2.toArray⟩, .string ⟨t3.toArray⟩] 25)).alloc (.cells #[.int .i64 r1, .int .i64 r2, .int .i64 r3, .int .i64 r4, .int .i64 r5, .int .i64 r6, .int .i64 r7, .int .i64 r8, .int .i64 r9, .string ⟨tx.toArray⟩, .slice A ls.length cp] 31))) := Lib.hid (by rw [hu3, hu2, hu1])
    have HSZ := Lib.hid su3
    obtain ⟨W0, hW0⟩ : ∃ u, u = wu3 := ⟨_, rfl⟩
    rw [← hW0] at Hs0 Ha0 Hr0 BW_0 HW HSZ
    clear hW0 hu1 su1 tu1 bu1 BU1 hu2 su2 tu2 bu2 BU2 hu3 su3 tu3 bu3 BU3
    have Rn0 := Lib.hid (hrow.below BW_0.out)
    clear hrow
    go_enter Try.func6, Try.ntmps6
    go_wp2_with fail
    rw [← HW.out]
    refine (law_shown _).mono ?_
    rintro e w1 ⟨rfl, hb⟩
    have Ha_1 := Lib.hid (Ha0.out.below hb)
    have Hr_1 := Lib.hid (Hr0.out.below hb)
    have Rn_1 := Lib.hid (Rn0.out.below hb)
    have BW_1 := Lib.hid (below_trans BW_0.out hb BW_0.out.size)
    clear hb 
    go_wp2_with fail
    refine wp_region_held_drew (S := fun V => Below w1.heap.size w1 V) (by kernel_rfl) (below_dn (Below.refl _ _) 1) (fun hHeld => ?_)
    refine wpAnyH_take (i := 0) (v := ?_) rfl (by kernel_rfl) (by kernel_rfl) (by kernel_rfl) (fun _ _ _ h => h) (Or.inl ⟨by rfl, ?_⟩) (by assumption) ?_
    rotate_left
    · intro X hSw
      go_simp
      try with_reducible rfl
    rotate_left
    try simp only [Act.put, List.setIfInBounds_toArray, List.set_cons_zero, List.set_cons_succ, List.getElem_toArray, List.getElem_cons_zero, List.getElem_cons_succ]
    refine wpAnyH_take (i := 1) (v := ?_) rfl (by kernel_rfl) (by kernel_rfl) (by kernel_rfl) (fun _ _ _ h => h) (Or.inl ⟨by rfl, ?_⟩) (by assumption) ?_
    rotate_left
    · intro X hSw
      have hc0 : X.cell? ⟨(w.heap.size + 1), 0, none⟩ = some (.int .i64 m1) := (Ha_1.out.below hSw).cell 0
      have hc1 : X.cell? ⟨(w.heap.size + 1), 1, none⟩ = some (.int .i64 m2) := (Ha_1.out.below hSw).cell 1
      have hc2 : X.cell? ⟨(w.heap.size + 1), 2, none⟩ = some (.int .i64 m3) := (Ha_1.out.below hSw).cell 2
      have hc3 : X.cell? ⟨(w.heap.size + 1), 3, none⟩ = some (.int .i64 m4) := (Ha_1.out.below hSw).cell 3
      have hc4 : X.cell? ⟨(w.heap.size + 1), 4, none⟩ = some (.int .i64 m5) := (Ha_1.out.below hSw).cell 4
      have hc5 : X.cell? ⟨(w.heap.size + 1), 5, none⟩ = some (.int .i64 m6) := (Ha_1.out.below hSw).cell 5
      have hc6 : X.cell? ⟨(w.heap.size + 1), 6, none⟩ = some (.int .i64 k1) := (Ha_1.out.below hSw).cell 6
      have hc7 : X.cell? ⟨(w.heap.size + 1), 7, none⟩ = some (.int .i64 k2) := (Ha_1.out.below hSw).cell 7
      have hc8 : X.cell? ⟨(w.heap.size + 1), 8, none⟩ = some (.int .i64 k3) := (Ha_1.out.below hSw).cell 8
      have hc9 : X.cell? ⟨(w.heap.size + 1), 9, none⟩ = some (.int .i64 k4) := (Ha_1.out.below hSw).cell 9
      have hc10 : X.cell? ⟨(w.heap.size + 1), 10, none⟩ = some (.int .i64 k5) := (Ha_1.out.below hSw).cell 10
      have hc11 : X.cell? ⟨(w.heap.size + 1), 11, none⟩ = some (.string ⟨t1.toArray⟩) := (Ha_1.out.below hSw).cell 11
      have hc12 : X.cell? ⟨(w.heap.size + 1), 12, none⟩ = some (.string ⟨t2.toArray⟩) := (Ha_1.out.below hSw).cell 12
      have hc13 : X.cell? ⟨(w.heap.size + 1), 13, none⟩ = some (.string ⟨t3.toArray⟩) := (Ha_1.out.below hSw).cell 13
      go_simp
      try with_reducible rfl
    rotate_left
    try simp only [Act.put, List.setIfInBounds_toArray, List.set_cons_zero, List.set_cons_succ, List.getElem_toArray, List.getElem_cons_zero, List.getElem_cons_succ]
    refine wpAnyH_ready (rs := [2]) (by kernel_rfl) (by simp) ?_
    refine (AllReadyH.cons rfl (fun K hK => ?_) AllReadyH.nil)
    rw [if_pos (by rfl)]
    go_wp2_with fail
    refine (HSH.out _).mono ?_
    rintro e wq ⟨rfl, hb⟩
    replace hHeld := below_trans hHeld hb (Below.size hHeld)
    rw [HA.out]
    clear hb
    refine hK.out _ _ hHeld (fun _ => ?_)
    clear hK K
    try simp only [Act.put, List.setIfInBounds_toArray, List.set_cons_zero, List.set_cons_succ, List.getElem_toArray, List.getElem_cons_zero, List.getElem_cons_succ]
    refine wpAnyH_take (i := 3) (v := ?_) rfl (by kernel_rfl) (by kernel_rfl) (by kernel_rfl) (fun _ _ _ h => h) (Or.inl ⟨by rfl, ?_⟩) (by assumption) ?_
    rotate_left
    · intro X hSw
      go_simp
      try with_reducible rfl
    rotate_left
    try simp only [Act.put, List.setIfInBounds_toArray, List.set_cons_zero, List.set_cons_succ, List.getElem_toArray, List.getElem_cons_zero, List.getElem_cons_succ]
    refine wpAnyH_take (i := 4) (v := ?_) rfl (by kernel_rfl) (by kernel_rfl) (by kernel_rfl) (fun _ _ _ h => h) (Or.inl ⟨by rfl, ?_⟩) (by assumption) ?_
    rotate_left
    · intro X hSw
      go_simp
      try with_reducible rfl
    rotate_left
    try simp only [Act.put, List.setIfInBounds_toArray, List.set_cons_zero, List.set_cons_succ, List.getElem_toArray, List.getElem_cons_zero, List.getElem_cons_succ]
    refine wpAnyH_take (i := 5) (v := undef) rfl (by kernel_rfl) (by kernel_rfl) (by kernel_rfl) (fun _ _ _ h => h) (Or.inr ⟨by rfl, rfl⟩) (by assumption) ?_
    try simp only [Act.put, List.setIfInBounds_toArray, List.set_cons_zero, List.set_cons_succ, List.getElem_toArray, List.getElem_cons_zero, List.getElem_cons_succ]
    refine wpAnyH_take (i := 6) (v := undef) rfl (by kernel_rfl) (by kernel_rfl) (by kernel_rfl) (fun _ _ _ h => h) (Or.inr ⟨by rfl, rfl⟩) (by assumption) ?_
    try simp only [Act.put, List.setIfInBounds_toArray, List.set_cons_zero, List.set_cons_succ, List.getElem_toArray, List.getElem_cons_zero, List.getElem_cons_succ]
    refine wpAnyH_take (i := 7) (v := undef) rfl (by kernel_rfl) (by kernel_rfl) (by kernel_rfl) (fun _ _ _ h => h) (Or.inr ⟨by rfl, rfl⟩) (by assumption) ?_
    try simp only [Act.put, List.setIfInBounds_toArray, List.set_cons_zero, List.set_cons_succ, List.getElem_toArray, List.getElem_cons_zero, List.getElem_cons_succ]
    refine wpAnyH_take (i := 8) (v := undef) rfl (by kernel_rfl) (by kernel_rfl) (by kernel_rfl) (fun _ _ _ h => h) (Or.inr ⟨by rfl, rfl⟩) (by assumption) ?_
    try simp only [Act.put, List.setIfInBounds_toArray, List.set_cons_zero, List.set_cons_succ, List.getElem_toArray, List.getElem_cons_zero, List.getElem_cons_succ]
    refine wpAnyH_take (i := 9) (v := undef) rfl (by kernel_rfl) (by kernel_rfl) (by kernel_rfl) (fun _ _ _ h => h) (Or.inr ⟨by rfl, rfl⟩) (by assumption) ?_
    try simp only [Act.put, List.setIfInBounds_toArray, List.set_cons_zero, List.set_cons_succ, List.getElem_toArray, List.getElem_cons_zero, List.getElem_cons_succ]
    refine wpAnyH_take (i := 10) (v := undef) rfl (by kernel_rfl) (by kernel_rfl) (by kernel_rfl) (fun _ _ _ h => h) (Or.inr ⟨by rfl, rfl⟩) (by assumption) ?_
    try simp only [Act.put, List.setIfInBounds_toArray, List.set_cons_zero, List.set_cons_succ, List.getElem_toArray, List.getElem_cons_zero, List.getElem_cons_succ]
    refine wpAnyH_take (i := 11) (v := undef) rfl (by kernel_rfl) (by kernel_rfl) (by kernel_rfl) (fun _ _ _ h => h) (Or.inr ⟨by rfl, rfl⟩) (by assumption) ?_
    try simp only [Act.put, List.setIfInBounds_toArray, List.set_cons_zero, List.set_cons_succ, List.getElem_toArray, List.getElem_cons_zero, List.getElem_cons_succ]
    refine wpAnyH_ready (rs := [12]) (by kernel_rfl) (by simp) ?_
    refine (AllReadyH.cons rfl (fun K hK => ?_) AllReadyH.nil)
    rw [if_neg (by intro h; exact absurd (show false = true from h) (by decide))]
    refine hK.out _ _ hHeld (fun _ => ?_)
    clear hK K
    try simp only [Act.put, List.setIfInBounds_toArray, List.set_cons_zero, List.set_cons_succ, List.getElem_toArray, List.getElem_cons_zero, List.getElem_cons_succ]
    refine wpAnyH_take (i := 13) (v := undef) rfl (by kernel_rfl) (by kernel_rfl) (by kernel_rfl) (fun _ _ _ h => h) (Or.inr ⟨by rfl, rfl⟩) (by assumption) ?_
    try simp only [Act.put, List.setIfInBounds_toArray, List.set_cons_zero, List.set_cons_succ, List.getElem_toArray, List.getElem_cons_zero, List.getElem_cons_succ]
    refine wpAnyH_take (i := 14) (v := undef) rfl (by kernel_rfl) (by kernel_rfl) (by kernel_rfl) (fun _ _ _ h => h) (Or.inr ⟨by rfl, rfl⟩) (by assumption) ?_
    try simp only [Act.put, List.setIfInBounds_toArray, List.set_cons_zero, List.set_cons_succ, List.getElem_toArray, List.getElem_cons_zero, List.getElem_cons_succ]
    refine wpAnyH_take (i := 15) (v := ?_) rfl (by kernel_rfl) (by kernel_rfl) (by kernel_rfl) (fun _ _ _ h => h) (Or.inl ⟨by rfl, ?_⟩) (by assumption) ?_
    rotate_left
    · intro X hSw
      go_simp
      try with_reducible rfl
    rotate_left
    try simp only [Act.put, List.setIfInBounds_toArray, List.set_cons_zero, List.set_cons_succ, List.getElem_toArray, List.getElem_cons_zero, List.getElem_cons_succ]
    refine wpAnyH_take (i := 16) (v := ?_) rfl (by kernel_rfl) (by kernel_rfl) (by kernel_rfl) (fun _ _ _ h => h) (Or.inl ⟨by rfl, ?_⟩) (by assumption) ?_
    rotate_left
    · intro X hSw
      go_simp
      try with_reducible rfl
    rotate_left
    try simp only [Act.put, List.setIfInBounds_toArray, List.set_cons_zero, List.set_cons_succ, List.getElem_toArray, List.getElem_cons_zero, List.getElem_cons_succ]
    refine wpAnyH_take (i := 17) (v := undef) rfl (by kernel_rfl) (by kernel_rfl) (by kernel_rfl) (fun _ _ _ h => h) (Or.inr ⟨by rfl, rfl⟩) (by assumption) ?_
    try simp only [Act.put, List.setIfInBounds_toArray, List.set_cons_zero, List.set_cons_succ, List.getElem_toArray, List.getElem_cons_zero, List.getElem_cons_succ]
    refine wpAnyH_take (i := 18) (v := undef) rfl (by kernel_rfl) (by kernel_rfl) (by kernel_rfl) (fun _ _ _ h => h) (Or.inr ⟨by rfl, rfl⟩) (by assumption) ?_
    try simp only [Act.put, List.setIfInBounds_toArray, List.set_cons_zero, List.set_cons_succ, List.getElem_toArray, List.getElem_cons_zero, List.getElem_cons_succ]
    refine wpAnyH_take (i := 19) (v := ?_) rfl (by kernel_rfl) (by kernel_rfl) (by kernel_rfl) (fun _ _ _ h => h) (Or.inl ⟨by rfl, ?_⟩) (by assumption) ?_
    rotate_left
    · intro X hSw
      go_simp
      try with_reducible rfl
    rotate_left
    try simp only [Act.put, List.setIfInBounds_toArray, List.set_cons_zero, List.set_cons_succ, List.getElem_toArray, List.getElem_cons_zero, List.getElem_cons_succ]
    refine wpAnyH_take (i := 20) (v := ?_) rfl (by kernel_rfl) (by kernel_rfl) (by kernel_rfl) (fun _ _ _ h => h) (Or.inl ⟨by rfl, ?_⟩) (by assumption) ?_
    rotate_left
    · intro X hSw
      go_simp
      try with_reducible rfl
    rotate_left
    try simp only [Act.put, List.setIfInBounds_toArray, List.set_cons_zero, List.set_cons_succ, List.getElem_toArray, List.getElem_cons_zero, List.getElem_cons_succ]
    refine wpAnyH_take (i := 21) (v := undef) rfl (by kernel_rfl) (by kernel_rfl) (by kernel_rfl) (fun _ _ _ h => h) (Or.inr ⟨by rfl, rfl⟩) (by assumption) ?_
    try simp only [Act.put, List.setIfInBounds_toArray, List.set_cons_zero, List.set_cons_succ, List.getElem_toArray, List.getElem_cons_zero, List.getElem_cons_succ]
    refine wpAnyH_take (i := 22) (v := undef) rfl (by kernel_rfl) (by kernel_rfl) (by kernel_rfl) (fun _ _ _ h => h) (Or.inr ⟨by rfl, rfl⟩) (by assumption) ?_
    try simp only [Act.put, List.setIfInBounds_toArray, List.set_cons_zero, List.set_cons_succ, List.getElem_toArray, List.getElem_cons_zero, List.getElem_cons_succ]
    refine wpAnyH_take (i := 23) (v := ?_) rfl (by kernel_rfl) (by kernel_rfl) (by kernel_rfl) (fun _ _ _ h => h) (Or.inl ⟨by rfl, ?_⟩) (by assumption) ?_
    rotate_left
    · intro X hSw
      go_simp
      try with_reducible rfl
    rotate_left
    try simp only [Act.put, List.setIfInBounds_toArray, List.set_cons_zero, List.set_cons_succ, List.getElem_toArray, List.getElem_cons_zero, List.getElem_cons_succ]
    refine wpAnyH_done (by kernel_rfl) ?_ _
    have Ha_r6 := Lib.hid (Ha_1.out.below hHeld)
    have Hr_r6 := Lib.hid (Hr_1.out.below hHeld)
    have Rn_r6 := Lib.hid (Rn_1.out.below hHeld)
    have BW_r6 := Lib.hid (below_trans BW_1.out hHeld BW_1.out.size)
    clear hHeld
    go_wp2_with fail
    go_ret
    exact ⟨rfl, BW_r6.out⟩
  | true =>
    have HA := Lib.hid hsa
    by_cases hbig : (4000 : Int) < (tx.length : Int) + (L : Int)
    · clear hok hsa
      obtain ⟨wu1, hu1⟩ : ∃ u, u = w.alloc (.cells #[.int .i64 m1, .int .i64 m2, .int .i64 m3, .int .i64 m4, .int .i64 m5, .int .i64 m6, .int .i64 k1, .int .i64 k2, .int .i64 k3, .int .i64 k4, .int .i64 k5, .string ⟨t1.toArray⟩, .string ⟨t2.toArray⟩, .string ⟨t3.toArray⟩, .int .i64 r1, .int .i64 r2, .int .i64 r3, .int .i64 r4, .int .i64 r5, .int .i64 r6, .int .i64 r7, .int .i64 r8, .int .i64 r9, .string ⟨tx.toArray⟩, .slice A ls.length cp, .int .i64 at', .int .u8 by'] 55) := ⟨_, rfl⟩
      have su1 : wu1.heap.size = w.heap.size + 1 := by rw [hu1]; simp
      have tu1 : TBox wu1 (w.heap.size) 55 #[.int .i64 m1, .int .i64 m2, .int .i64 m3, .int .i64 m4, .int .i64 m5, .int .i64 m6, .int .i64 k1, .int .i64 k2, .int .i64 k3, .int .i64 k4, .int .i64 k5, .string ⟨t1.toArray⟩, .string ⟨t2.toArray⟩, .string ⟨t3.toArray⟩, .int .i64 r1, .int .i64 r2, .int .i64 r3, .int .i64 r4, .int .i64 r5, .int .i64 r6, .int .i64 r7, .int .i64 r8, .int .i64 r9, .string ⟨tx.toArray⟩, .slice A ls.length cp, .int .i64 at', .int .u8 by'] := by rw [hu1]; exact TBox.new _ _ _
      have bu1 : Below w.heap.size w wu1 := by rw [hu1]; exact (Below.refl _ _).alloc (Nat.le_refl _) _
      have BU1 := bu1
      obtain ⟨wu2, hu2⟩ : ∃ u, u = wu1.alloc (.cells #[.int .i64 m1, .int .i64 m2, .int .i64 m3, .int .i64 m4, .int .i64 m5, .int .i64 m6, .int .i64 k1, .int .i64 k2, .int .i64 k3, .int .i64 k4, .int .i64 k5, .string ⟨t1.toArray⟩, .string ⟨t2.toArray⟩, .string ⟨t3.toArray⟩] 25) := ⟨_, rfl⟩
      have su2 : wu2.heap.size = w.heap.size + 2 := by rw [hu2]; simp [su1]
      have tu2 : TBox wu2 (w.heap.size + 1) 25 #[.int .i64 m1, .int .i64 m2, .int .i64 m3, .int .i64 m4, .int .i64 m5, .int .i64 m6, .int .i64 k1, .int .i64 k2, .int .i64 k3, .int .i64 k4, .int .i64 k5, .string ⟨t1.toArray⟩, .string ⟨t2.toArray⟩, .string ⟨t3.toArray⟩] := by rw [hu2, ← su1]; exact TBox.new _ _ _
      have bu2 : Below wu1.heap.size wu1 wu2 := by rw [hu2]; exact (Below.refl _ _).alloc (Nat.le_refl _) _
      have BU2 := below_trans BU1 bu2 BU1.size
      obtain ⟨wu3, hu3⟩ : ∃ u, u = wu2.alloc (.cells #[.int .i64 r1, .int .i64 r2, .int .i64 r3, .int .i64 r4, .int .i64 r5, .int .i64 r6, .int .i64 r7, .int .i64 r8, .int .i64 r9, .string ⟨tx.toArray⟩, .slice A ls.length cp] 31) := ⟨_, rfl⟩
      have su3 : wu3.heap.size = w.heap.size + 3 := by rw [hu3]; simp [su2]
      have tu3 : TBox wu3 (w.heap.size + 2) 31 #[.int .i64 r1, .int .i64 r2, .int .i64 r3, .int .i64 r4, .int .i64 r5, .int .i64 r6, .int .i64 r7, .int .i64 r8, .int .i64 r9, .string ⟨tx.toArray⟩, .slice A ls.length cp] := by rw [hu3, ← su2]; exact TBox.new _ _ _
      have bu3 : Below wu2.heap.size wu2 wu3 := by rw [hu3]; exact (Below.refl _ _).alloc (Nat.le_refl _) _
      have BU3 := below_trans BU2 bu3 BU2.size
      have Hs0 := Lib.hid ((tu1.below bu2).below bu3)
      have Ha0 := Lib.hid (tu2.below bu3)
      have Hr0 := Lib.hid tu3
      have BW_0 := Lib.hid BU3
      have HW : Hid (wu3 = (((w.alloc (.cells #[.int .i64 m1, .int .i64 m2, .int .i64 m3, .int .i64 m4, .int .i64 m5, .int .i64 m6, .int .i64 k1, .int .i64 k2, .int .i64 k3, .int .i64 k4, .int .i64 k5, .string ⟨t1.toArray⟩, .string ⟨t2.toArray⟩, .string ⟨t3.toArray⟩, .int .i64 r1, .int .i64 r2, .int .i64 r3, .int .i64 r4, .int .i64 r5, .int .i64 r6, .int .i64 r7, .int .i64 r8, .int .i64 r9, .string ⟨tx.toArray⟩, .slice A ls.length cp, .int .i64 at', .int .u8 by'] 55)).alloc (.cells #[.int .i64 m1, .int .i64 m2, .int .i64 m3, .int .i64 m4, .int .i64 m5, .int .i64 m6, .int .i64 k1, .int .i64 k2, .int .i64 k3, .int .i64 k4, .int .i64 k5, .string ⟨t1.toArray⟩, .string ⟨t2.toArray⟩, .string ⟨t3.toArray⟩] 25)).alloc (.cells #[.int .i64 r1, .int .i64 r2, .int .i64 r3, .int .i64 r4, .int .i64 r5, .int .i64 r6, .int .i64 r7, .int .i64 r8, .int .i64 r9, .string ⟨tx.toArray⟩, .slice A ls.length cp] 31))) := Lib.hid (by rw [hu3, hu2, hu1])
      have HSZ := Lib.hid su3
      obtain ⟨W0, hW0⟩ : ∃ u, u = wu3 := ⟨_, rfl⟩
      rw [← hW0] at Hs0 Ha0 Hr0 BW_0 HW HSZ
      clear hW0 hu1 su1 tu1 bu1 BU1 hu2 su2 tu2 bu2 BU2 hu3 su3 tu3 bu3 BU3
      have Rn0 := Lib.hid (hrow.below BW_0.out)
      clear hrow
      go_enter Try.func6, Try.ntmps6
      go_wp2_with fail
      rw [← HW.out]
      refine (law_shown _).mono ?_
      rintro e w1 ⟨rfl, hb⟩
      have Ha_1 := Lib.hid (Ha0.out.below hb)
      have Hr_1 := Lib.hid (Hr0.out.below hb)
      have Rn_1 := Lib.hid (Rn0.out.below hb)
      have BW_1 := Lib.hid (below_trans BW_0.out hb BW_0.out.size)
      clear hb 
      go_wp2_with fail
      refine wp_region_held_drew (S := fun V => Below w1.heap.size w1 V) (by kernel_rfl) (below_dn (Below.refl _ _) 1) (fun hHeld => ?_)
      refine wpAnyH_take (i := 0) (v := ?_) rfl (by kernel_rfl) (by kernel_rfl) (by kernel_rfl) (fun _ _ _ h => h) (Or.inl ⟨by rfl, ?_⟩) (by assumption) ?_
      rotate_left
      · intro X hSw
        go_simp
        try with_reducible rfl
      rotate_left
      try simp only [Act.put, List.setIfInBounds_toArray, List.set_cons_zero, List.set_cons_succ, List.getElem_toArray, List.getElem_cons_zero, List.getElem_cons_succ]
      refine wpAnyH_take (i := 1) (v := ?_) rfl (by kernel_rfl) (by kernel_rfl) (by kernel_rfl) (fun _ _ _ h => h) (Or.inl ⟨by rfl, ?_⟩) (by assumption) ?_
      rotate_left
      · intro X hSw
        have hc0 : X.cell? ⟨(w.heap.size + 1), 0, none⟩ = some (.int .i64 m1) := (Ha_1.out.below hSw).cell 0
        have hc1 : X.cell? ⟨(w.heap.size + 1), 1, none⟩ = some (.int .i64 m2) := (Ha_1.out.below hSw).cell 1
        have hc2 : X.cell? ⟨(w.heap.size + 1), 2, none⟩ = some (.int .i64 m3) := (Ha_1.out.below hSw).cell 2
        have hc3 : X.cell? ⟨(w.heap.size + 1), 3, none⟩ = some (.int .i64 m4) := (Ha_1.out.below hSw).cell 3
        have hc4 : X.cell? ⟨(w.heap.size + 1), 4, none⟩ = some (.int .i64 m5) := (Ha_1.out.below hSw).cell 4
        have hc5 : X.cell? ⟨(w.heap.size + 1), 5, none⟩ = some (.int .i64 m6) := (Ha_1.out.below hSw).cell 5
        have hc6 : X.cell? ⟨(w.heap.size + 1), 6, none⟩ = some (.int .i64 k1) := (Ha_1.out.below hSw).cell 6
        have hc7 : X.cell? ⟨(w.heap.size + 1), 7, none⟩ = some (.int .i64 k2) := (Ha_1.out.below hSw).cell 7
        have hc8 : X.cell? ⟨(w.heap.size + 1), 8, none⟩ = some (.int .i64 k3) := (Ha_1.out.below hSw).cell 8
        have hc9 : X.cell? ⟨(w.heap.size + 1), 9, none⟩ = some (.int .i64 k4) := (Ha_1.out.below hSw).cell 9
        have hc10 : X.cell? ⟨(w.heap.size + 1), 10, none⟩ = some (.int .i64 k5) := (Ha_1.out.below hSw).cell 10
        have hc11 : X.cell? ⟨(w.heap.size + 1), 11, none⟩ = some (.string ⟨t1.toArray⟩) := (Ha_1.out.below hSw).cell 11
        have hc12 : X.cell? ⟨(w.heap.size + 1), 12, none⟩ = some (.string ⟨t2.toArray⟩) := (Ha_1.out.below hSw).cell 12
        have hc13 : X.cell? ⟨(w.heap.size + 1), 13, none⟩ = some (.string ⟨t3.toArray⟩) := (Ha_1.out.below hSw).cell 13
        go_simp
        try with_reducible rfl
      rotate_left
      try simp only [Act.put, List.setIfInBounds_toArray, List.set_cons_zero, List.set_cons_succ, List.getElem_toArray, List.getElem_cons_zero, List.getElem_cons_succ]
      refine wpAnyH_ready (rs := [2]) (by kernel_rfl) (by simp) ?_
      refine (AllReadyH.cons rfl (fun K hK => ?_) AllReadyH.nil)
      rw [if_pos (by rfl)]
      go_wp2_with fail
      refine (HSH.out _).mono ?_
      rintro e wq ⟨rfl, hb⟩
      replace hHeld := below_trans hHeld hb (Below.size hHeld)
      rw [HA.out]
      clear hb
      refine hK.out _ _ hHeld (fun _ => ?_)
      clear hK K
      try simp only [Act.put, List.setIfInBounds_toArray, List.set_cons_zero, List.set_cons_succ, List.getElem_toArray, List.getElem_cons_zero, List.getElem_cons_succ]
      refine wpAnyH_take (i := 3) (v := ?_) rfl (by kernel_rfl) (by kernel_rfl) (by kernel_rfl) (fun _ _ _ h => h) (Or.inl ⟨by rfl, ?_⟩) (by assumption) ?_
      rotate_left
      · intro X hSw
        go_simp
        try with_reducible rfl
      rotate_left
      try simp only [Act.put, List.setIfInBounds_toArray, List.set_cons_zero, List.set_cons_succ, List.getElem_toArray, List.getElem_cons_zero, List.getElem_cons_succ]
      refine wpAnyH_take (i := 4) (v := ?_) rfl (by kernel_rfl) (by kernel_rfl) (by kernel_rfl) (fun _ _ _ h => h) (Or.inl ⟨by rfl, ?_⟩) (by assumption) ?_
      rotate_left
      · intro X hSw
        go_simp
        try with_reducible rfl
      rotate_left
      try simp only [Act.put, List.setIfInBounds_toArray, List.set_cons_zero, List.set_cons_succ, List.getElem_toArray, List.getElem_cons_zero, List.getElem_cons_succ]
      refine wpAnyH_take (i := 5) (v := ?_) rfl (by kernel_rfl) (by kernel_rfl) (by kernel_rfl) (fun _ _ _ h => h) (Or.inl ⟨by rfl, ?_⟩) (by assumption) ?_
      rotate_left
      · intro X hSw
        go_simp
        try with_reducible rfl
      rotate_left
      try simp only [Act.put, List.setIfInBounds_toArray, List.set_cons_zero, List.set_cons_succ, List.getElem_toArray, List.getElem_cons_zero, List.getElem_cons_succ]
      refine wpAnyH_take (i := 6) (v := ?_) rfl (by kernel_rfl) (by kernel_rfl) (by kernel_rfl) (fun _ _ _ h => h) (Or.inl ⟨by rfl, ?_⟩) (by assumption) ?_
      rotate_left
      · intro X hSw
        go_simp
        try with_reducible rfl
      rotate_left
      try simp only [Act.put, List.setIfInBounds_toArray, List.set_cons_zero, List.set_cons_succ, List.getElem_toArray, List.getElem_cons_zero, List.getElem_cons_succ]
      refine wpAnyH_take (i := 7) (v := ?_) rfl (by kernel_rfl) (by kernel_rfl) (by kernel_rfl) (fun _ _ _ h => h) (Or.inl ⟨by rfl, ?_⟩) (by assumption) ?_
      rotate_left
      · intro X hSw
        have hc0 : X.cell? ⟨(w.heap.size + 2), 0, none⟩ = some (.int .i64 r1) := (Hr_1.out.below hSw).cell 0
        have hc1 : X.cell? ⟨(w.heap.size + 2), 1, none⟩ = some (.int .i64 r2) := (Hr_1.out.below hSw).cell 1
        have hc2 : X.cell? ⟨(w.heap.size + 2), 2, none⟩ = some (.int .i64 r3) := (Hr_1.out.below hSw).cell 2
        have hc3 : X.cell? ⟨(w.heap.size + 2), 3, none⟩ = some (.int .i64 r4) := (Hr_1.out.below hSw).cell 3
        have hc4 : X.cell? ⟨(w.heap.size + 2), 4, none⟩ = some (.int .i64 r5) := (Hr_1.out.below hSw).cell 4
        have hc5 : X.cell? ⟨(w.heap.size + 2), 5, none⟩ = some (.int .i64 r6) := (Hr_1.out.below hSw).cell 5
        have hc6 : X.cell? ⟨(w.heap.size + 2), 6, none⟩ = some (.int .i64 r7) := (Hr_1.out.below hSw).cell 6
        have hc7 : X.cell? ⟨(w.heap.size + 2), 7, none⟩ = some (.int .i64 r8) := (Hr_1.out.below hSw).cell 7
        have hc8 : X.cell? ⟨(w.heap.size + 2), 8, none⟩ = some (.int .i64 r9) := (Hr_1.out.below hSw).cell 8
        have hc9 : X.cell? ⟨(w.heap.size + 2), 9, none⟩ = some (.string ⟨tx.toArray⟩) := (Hr_1.out.below hSw).cell 9
        have hc10 : X.cell? ⟨(w.heap.size + 2), 10, none⟩ = some (.slice A ls.length cp) := (Hr_1.out.below hSw).cell 10
        go_simp
        try with_reducible rfl
      rotate_left
      try simp only [Act.put, List.setIfInBounds_toArray, List.set_cons_zero, List.set_cons_succ, List.getElem_toArray, List.getElem_cons_zero, List.getElem_cons_succ]
      refine wpAnyH_take (i := 8) (v := ?_) rfl (by kernel_rfl) (by kernel_rfl) (by kernel_rfl) (fun _ _ _ h => h) (Or.inl ⟨by rfl, ?_⟩) (by assumption) ?_
      rotate_left
      · intro X hSw
        go_simp
        try with_reducible rfl
      rotate_left
      try simp only [Act.put, List.setIfInBounds_toArray, List.set_cons_zero, List.set_cons_succ, List.getElem_toArray, List.getElem_cons_zero, List.getElem_cons_succ]
      refine wpAnyH_take (i := 9) (v := ?_) rfl (by kernel_rfl) (by kernel_rfl) (by kernel_rfl) (fun _ _ _ h => h) (Or.inl ⟨by rfl, ?_⟩) (by assumption) ?_
      rotate_left
      · intro X hSw
        go_simp
        try with_reducible rfl
      rotate_left
      try simp only [Act.put, List.setIfInBounds_toArray, List.set_cons_zero, List.set_cons_succ, List.getElem_toArray, List.getElem_cons_zero, List.getElem_cons_succ]
      refine wpAnyH_take (i := 10) (v := ?_) rfl (by kernel_rfl) (by kernel_rfl) (by kernel_rfl) (fun _ _ _ h => h) (Or.inl ⟨by rfl, ?_⟩) (by assumption) ?_
      rotate_left
      · intro X hSw
        go_simp
        try with_reducible rfl
      rotate_left
      try simp only [Act.put, List.setIfInBounds_toArray, List.set_cons_zero, List.set_cons_succ, List.getElem_toArray, List.getElem_cons_zero, List.getElem_cons_succ]
      refine wpAnyH_take (i := 11) (v := ?_) rfl (by kernel_rfl) (by kernel_rfl) (by kernel_rfl) (fun _ _ _ h => h) (Or.inl ⟨by rfl, ?_⟩) (by assumption) ?_
      rotate_left
      · intro X hSw
        have hc0 : X.cell? ⟨(w.heap.size + 2), 0, none⟩ = some (.int .i64 r1) := (Hr_1.out.below hSw).cell 0
        have hc1 : X.cell? ⟨(w.heap.size + 2), 1, none⟩ = some (.int .i64 r2) := (Hr_1.out.below hSw).cell 1
        have hc2 : X.cell? ⟨(w.heap.size + 2), 2, none⟩ = some (.int .i64 r3) := (Hr_1.out.below hSw).cell 2
        have hc3 : X.cell? ⟨(w.heap.size + 2), 3, none⟩ = some (.int .i64 r4) := (Hr_1.out.below hSw).cell 3
        have hc4 : X.cell? ⟨(w.heap.size + 2), 4, none⟩ = some (.int .i64 r5) := (Hr_1.out.below hSw).cell 4
        have hc5 : X.cell? ⟨(w.heap.size + 2), 5, none⟩ = some (.int .i64 r6) := (Hr_1.out.below hSw).cell 5
        have hc6 : X.cell? ⟨(w.heap.size + 2), 6, none⟩ = some (.int .i64 r7) := (Hr_1.out.below hSw).cell 6
        have hc7 : X.cell? ⟨(w.heap.size + 2), 7, none⟩ = some (.int .i64 r8) := (Hr_1.out.below hSw).cell 7
        have hc8 : X.cell? ⟨(w.heap.size + 2), 8, none⟩ = some (.int .i64 r9) := (Hr_1.out.below hSw).cell 8
        have hc9 : X.cell? ⟨(w.heap.size + 2), 9, none⟩ = some (.string ⟨tx.toArray⟩) := (Hr_1.out.below hSw).cell 9
        have hc10 : X.cell? ⟨(w.heap.size + 2), 10, none⟩ = some (.slice A ls.length cp) := (Hr_1.out.below hSw).cell 10
        go_simp
        try with_reducible rfl
      rotate_left
      try simp only [Act.put, List.setIfInBounds_toArray, List.set_cons_zero, List.set_cons_succ, List.getElem_toArray, List.getElem_cons_zero, List.getElem_cons_succ]
      refine wpAnyH_ready (rs := [12]) (by kernel_rfl) (by simp) ?_
      refine (AllReadyH.cons rfl (fun K hK => ?_) AllReadyH.nil)
      rw [if_pos (by rfl)]
      go_wp2_with fail
      refine (HLG.out _ _ (Rn_1.out.below hHeld)).mono ?_
      rintro e wq2 ⟨rfl, rfl⟩
      refine hK.out _ _ hHeld (fun _ => ?_)
      clear hK K
      try simp only [Act.put, List.setIfInBounds_toArray, List.set_cons_zero, List.set_cons_succ, List.getElem_toArray, List.getElem_cons_zero, List.getElem_cons_succ]
      refine wpAnyH_take (i := 13) (v := ?_) rfl (by kernel_rfl) (by kernel_rfl) (by kernel_rfl) (fun _ _ _ h => h) (Or.inl ⟨by rfl, ?_⟩) (by assumption) ?_
      rotate_left
      · intro X hSw
        go_simp
        try with_reducible rfl
      rotate_left
      try simp only [Act.put, List.setIfInBounds_toArray, List.set_cons_zero, List.set_cons_succ, List.getElem_toArray, List.getElem_cons_zero, List.getElem_cons_succ]
      refine wpAnyH_take (i := 14) (v := .bool true) rfl (by kernel_rfl) (by kernel_rfl) (by kernel_rfl) (fun _ _ _ h => h) (Or.inl ⟨by rfl, ?_⟩) (by assumption) ?_
      · intro X hSw
        go_simp
        rw [HWR.out]
        exact hbig
      try simp only [Act.put, List.setIfInBounds_toArray, List.set_cons_zero, List.set_cons_succ, List.getElem_toArray, List.getElem_cons_zero, List.getElem_cons_succ]
      refine wpAnyH_take (i := 15) (v := ?_) rfl (by kernel_rfl) (by kernel_rfl) (by kernel_rfl) (fun _ _ _ h => h) (Or.inl ⟨by rfl, ?_⟩) (by assumption) ?_
      rotate_left
      · intro X hSw
        go_simp
        try with_reducible rfl
      rotate_left
      try simp only [Act.put, List.setIfInBounds_toArray, List.set_cons_zero, List.set_cons_succ, List.getElem_toArray, List.getElem_cons_zero, List.getElem_cons_succ]
      refine wpAnyH_take (i := 16) (v := ?_) rfl (by kernel_rfl) (by kernel_rfl) (by kernel_rfl) (fun _ _ _ h => h) (Or.inl ⟨by rfl, ?_⟩) (by assumption) ?_
      rotate_left
      · intro X hSw
        go_simp
        try with_reducible rfl
      rotate_left
      try simp only [Act.put, List.setIfInBounds_toArray, List.set_cons_zero, List.set_cons_succ, List.getElem_toArray, List.getElem_cons_zero, List.getElem_cons_succ]
      refine wpAnyH_take (i := 17) (v := undef) rfl (by kernel_rfl) (by kernel_rfl) (by kernel_rfl) (fun _ _ _ h => h) (Or.inr ⟨by rfl, rfl⟩) (by assumption) ?_
      try simp only [Act.put, List.setIfInBounds_toArray, List.set_cons_zero, List.set_cons_succ, List.getElem_toArray, List.getElem_cons_zero, List.getElem_cons_succ]
      refine wpAnyH_take (i := 18) (v := undef) rfl (by kernel_rfl) (by kernel_rfl) (by kernel_rfl) (fun _ _ _ h => h) (Or.inr ⟨by rfl, rfl⟩) (by assumption) ?_
      try simp only [Act.put, List.setIfInBounds_toArray, List.set_cons_zero, List.set_cons_succ, List.getElem_toArray, List.getElem_cons_zero, List.getElem_cons_succ]
      refine wpAnyH_take (i := 19) (v := ?_) rfl (by kernel_rfl) (by kernel_rfl) (by kernel_rfl) (fun _ _ _ h => h) (Or.inl ⟨by rfl, ?_⟩) (by assumption) ?_
      rotate_left
      · intro X hSw
        go_simp
        try with_reducible rfl
      rotate_left
      try simp only [Act.put, List.setIfInBounds_toArray, List.set_cons_zero, List.set_cons_succ, List.getElem_toArray, List.getElem_cons_zero, List.getElem_cons_succ]
      refine wpAnyH_take (i := 20) (v := ?_) rfl (by kernel_rfl) (by kernel_rfl) (by kernel_rfl) (fun _ _ _ h => h) (Or.inl ⟨by rfl, ?_⟩) (by assumption) ?_
      rotate_left
      · intro X hSw
        go_simp
        try with_reducible rfl
      rotate_left
      try simp only [Act.put, List.setIfInBounds_toArray, List.set_cons_zero, List.set_cons_succ, List.getElem_toArray, List.getElem_cons_zero, List.getElem_cons_succ]
      refine wpAnyH_take (i := 21) (v := undef) rfl (by kernel_rfl) (by kernel_rfl) (by kernel_rfl) (fun _ _ _ h => h) (Or.inr ⟨by rfl, rfl⟩) (by assumption) ?_
      try simp only [Act.put, List.setIfInBounds_toArray, List.set_cons_zero, List.set_cons_succ, List.getElem_toArray, List.getElem_cons_zero, List.getElem_cons_succ]
      refine wpAnyH_take (i := 22) (v := undef) rfl (by kernel_rfl) (by kernel_rfl) (by kernel_rfl) (fun _ _ _ h => h) (Or.inr ⟨by rfl, rfl⟩) (by assumption) ?_
      try simp only [Act.put, List.setIfInBounds_toArray, List.set_cons_zero, List.set_cons_succ, List.getElem_toArray, List.getElem_cons_zero, List.getElem_cons_succ]
      refine wpAnyH_take (i := 23) (v := ?_) rfl (by kernel_rfl) (by kernel_rfl) (by kernel_rfl) (fun _ _ _ h => h) (Or.inl ⟨by rfl, ?_⟩) (by assumption) ?_
      rotate_left
      · intro X hSw
        go_simp
        try with_reducible rfl
      rotate_left
      try simp only [Act.put, List.setIfInBounds_toArray, List.set_cons_zero, List.set_cons_succ, List.getElem_toArray, List.getElem_cons_zero, List.getElem_cons_succ]
      refine wpAnyH_done (by kernel_rfl) ?_ _
      have Ha_r6 := Lib.hid (Ha_1.out.below hHeld)
      have Hr_r6 := Lib.hid (Hr_1.out.below hHeld)
      have Rn_r6 := Lib.hid (Rn_1.out.below hHeld)
      have BW_r6 := Lib.hid (below_trans BW_1.out hHeld BW_1.out.size)
      clear hHeld
      go_wp2_with fail
      go_ret
      exact ⟨rfl, BW_r6.out⟩
    have hbig : (tx.length : Int) + (L : Int) ≤ 4000 := by omega
    by_cases hy0 : by' = 0
    · subst hy0
      clear hok hsa
      obtain ⟨wu1, hu1⟩ : ∃ u, u = w.alloc (.cells #[.int .i64 m1, .int .i64 m2, .int .i64 m3, .int .i64 m4, .int .i64 m5, .int .i64 m6, .int .i64 k1, .int .i64 k2, .int .i64 k3, .int .i64 k4, .int .i64 k5, .string ⟨t1.toArray⟩, .string ⟨t2.toArray⟩, .string ⟨t3.toArray⟩, .int .i64 r1, .int .i64 r2, .int .i64 r3, .int .i64 r4, .int .i64 r5, .int .i64 r6, .int .i64 r7, .int .i64 r8, .int .i64 r9, .string ⟨tx.toArray⟩, .slice A ls.length cp, .int .i64 at', .int .u8 0] 55) := ⟨_, rfl⟩
      have su1 : wu1.heap.size = w.heap.size + 1 := by rw [hu1]; simp
      have tu1 : TBox wu1 (w.heap.size) 55 #[.int .i64 m1, .int .i64 m2, .int .i64 m3, .int .i64 m4, .int .i64 m5, .int .i64 m6, .int .i64 k1, .int .i64 k2, .int .i64 k3, .int .i64 k4, .int .i64 k5, .string ⟨t1.toArray⟩, .string ⟨t2.toArray⟩, .string ⟨t3.toArray⟩, .int .i64 r1, .int .i64 r2, .int .i64 r3, .int .i64 r4, .int .i64 r5, .int .i64 r6, .int .i64 r7, .int .i64 r8, .int .i64 r9, .string ⟨tx.toArray⟩, .slice A ls.length cp, .int .i64 at', .int .u8 0] := by rw [hu1]; exact TBox.new _ _ _
      have bu1 : Below w.heap.size w wu1 := by rw [hu1]; exact (Below.refl _ _).alloc (Nat.le_refl _) _
      have BU1 := bu1
      obtain ⟨wu2, hu2⟩ : ∃ u, u = wu1.alloc (.cells #[.int .i64 m1, .int .i64 m2, .int .i64 m3, .int .i64 m4, .int .i64 m5, .int .i64 m6, .int .i64 k1, .int .i64 k2, .int .i64 k3, .int .i64 k4, .int .i64 k5, .string ⟨t1.toArray⟩, .string ⟨t2.toArray⟩, .string ⟨t3.toArray⟩] 25) := ⟨_, rfl⟩
      have su2 : wu2.heap.size = w.heap.size + 2 := by rw [hu2]; simp [su1]
      have tu2 : TBox wu2 (w.heap.size + 1) 25 #[.int .i64 m1, .int .i64 m2, .int .i64 m3, .int .i64 m4, .int .i64 m5, .int .i64 m6, .int .i64 k1, .int .i64 k2, .int .i64 k3, .int .i64 k4, .int .i64 k5, .string ⟨t1.toArray⟩, .string ⟨t2.toArray⟩, .string ⟨t3.toArray⟩] := by rw [hu2, ← su1]; exact TBox.new _ _ _
      have bu2 : Below wu1.heap.size wu1 wu2 := by rw [hu2]; exact (Below.refl _ _).alloc (Nat.le_refl _) _
      have BU2 := below_trans BU1 bu2 BU1.size
      obtain ⟨wu3, hu3⟩ : ∃ u, u = wu2.alloc (.cells #[.int .i64 r1, .int .i64 r2, .int .i64 r3, .int .i64 r4, .int .i64 r5, .int .i64 r6, .int .i64 r7, .int .i64 r8, .int .i64 r9, .string ⟨tx.toArray⟩, .slice A ls.length cp] 31) := ⟨_, rfl⟩
      have su3 : wu3.heap.size = w.heap.size + 3 := by rw [hu3]; simp [su2]
      have tu3 : TBox wu3 (w.heap.size + 2) 31 #[.int .i64 r1, .int .i64 r2, .int .i64 r3, .int .i64 r4, .int .i64 r5, .int .i64 r6, .int .i64 r7, .int .i64 r8, .int .i64 r9, .string ⟨tx.toArray⟩, .slice A ls.length cp] := by rw [hu3, ← su2]; exact TBox.new _ _ _
      have bu3 : Below wu2.heap.size wu2 wu3 := by rw [hu3]; exact (Below.refl _ _).alloc (Nat.le_refl _) _
      have BU3 := below_trans BU2 bu3 BU2.size
      have Hs0 := Lib.hid ((tu1.below bu2).below bu3)
      have Ha0 := Lib.hid (tu2.below bu3)
      have Hr0 := Lib.hid tu3
      have BW_0 := Lib.hid BU3
      have HW : Hid (wu3 = (((w.alloc (.cells #[.int .i64 m1, .int .i64 m2, .int .i64 m3, .int .i64 m4, .int .i64 m5, .int .i64 m6, .int .i64 k1, .int .i64 k2, .int .i64 k3, .int .i64 k4, .int .i64 k5, .string ⟨t1.toArray⟩, .string ⟨t2.toArray⟩, .string ⟨t3.toArray⟩, .int .i64 r1, .int .i64 r2, .int .i64 r3, .int .i64 r4, .int .i64 r5, .int .i64 r6, .int .i64 r7, .int .i64 r8, .int .i64 r9, .string ⟨tx.toArray⟩, .slice A ls.length cp, .int .i64 at', .int .u8 0] 55)).alloc (.cells #[.int .i64 m1, .int .i64 m2, .int .i64 m3, .int .i64 m4, .int .i64 m5, .int .i64 m6, .int .i64 k1, .int .i64 k2, .int .i64 k3, .int .i64 k4, .int .i64 k5, .string ⟨t1.toArray⟩, .string ⟨t2.toArray⟩, .string ⟨t3.toArray⟩] 25)).alloc (.cells #[.int .i64 r1, .int .i64 r2, .int .i64 r3, .int .i64 r4, .int .i64 r5, .int .i64 r6, .int .i64 r7, .int .i64 r8, .int .i64 r9, .string ⟨tx.toArray⟩, .slice A ls.length cp] 31))) := Lib.hid (by rw [hu3, hu2, hu1])
      have HSZ := Lib.hid su3
      obtain ⟨W0, hW0⟩ : ∃ u, u = wu3 := ⟨_, rfl⟩
      rw [← hW0] at Hs0 Ha0 Hr0 BW_0 HW HSZ
      clear hW0 hu1 su1 tu1 bu1 BU1 hu2 su2 tu2 bu2 BU2 hu3 su3 tu3 bu3 BU3
      have Rn0 := Lib.hid (hrow.below BW_0.out)
      clear hrow
      go_enter Try.func6, Try.ntmps6
      go_wp2_with fail
      rw [← HW.out]
      refine (law_shown _).mono ?_
      rintro e w1 ⟨rfl, hb⟩
      have Ha_1 := Lib.hid (Ha0.out.below hb)
      have Hr_1 := Lib.hid (Hr0.out.below hb)
      have Rn_1 := Lib.hid (Rn0.out.below hb)
      have BW_1 := Lib.hid (below_trans BW_0.out hb BW_0.out.size)
      clear hb 
      go_wp2_with fail
      refine wp_region_held_drew (S := fun V => Below w1.heap.size w1 V) (by kernel_rfl) (below_dn (Below.refl _ _) 1) (fun hHeld => ?_)
      refine wpAnyH_take (i := 0) (v := ?_) rfl (by kernel_rfl) (by kernel_rfl) (by kernel_rfl) (fun _ _ _ h => h) (Or.inl ⟨by rfl, ?_⟩) (by assumption) ?_
      rotate_left
      · intro X hSw
        go_simp
        try with_reducible rfl
      rotate_left
      try simp only [Act.put, List.setIfInBounds_toArray, List.set_cons_zero, List.set_cons_succ, List.getElem_toArray, List.getElem_cons_zero, List.getElem_cons_succ]
      refine wpAnyH_take (i := 1) (v := ?_) rfl (by kernel_rfl) (by kernel_rfl) (by kernel_rfl) (fun _ _ _ h => h) (Or.inl ⟨by rfl, ?_⟩) (by assumption) ?_
      rotate_left
      · intro X hSw
        have hc0 : X.cell? ⟨(w.heap.size + 1), 0, none⟩ = some (.int .i64 m1) := (Ha_1.out.below hSw).cell 0
        have hc1 : X.cell? ⟨(w.heap.size + 1), 1, none⟩ = some (.int .i64 m2) := (Ha_1.out.below hSw).cell 1
        have hc2 : X.cell? ⟨(w.heap.size + 1), 2, none⟩ = some (.int .i64 m3) := (Ha_1.out.below hSw).cell 2
        have hc3 : X.cell? ⟨(w.heap.size + 1), 3, none⟩ = some (.int .i64 m4) := (Ha_1.out.below hSw).cell 3
        have hc4 : X.cell? ⟨(w.heap.size + 1), 4, none⟩ = some (.int .i64 m5) := (Ha_1.out.below hSw).cell 4
        have hc5 : X.cell? ⟨(w.heap.size + 1), 5, none⟩ = some (.int .i64 m6) := (Ha_1.out.below hSw).cell 5
        have hc6 : X.cell? ⟨(w.heap.size + 1), 6, none⟩ = some (.int .i64 k1) := (Ha_1.out.below hSw).cell 6
        have hc7 : X.cell? ⟨(w.heap.size + 1), 7, none⟩ = some (.int .i64 k2) := (Ha_1.out.below hSw).cell 7
        have hc8 : X.cell? ⟨(w.heap.size + 1), 8, none⟩ = some (.int .i64 k3) := (Ha_1.out.below hSw).cell 8
        have hc9 : X.cell? ⟨(w.heap.size + 1), 9, none⟩ = some (.int .i64 k4) := (Ha_1.out.below hSw).cell 9
        have hc10 : X.cell? ⟨(w.heap.size + 1), 10, none⟩ = some (.int .i64 k5) := (Ha_1.out.below hSw).cell 10
        have hc11 : X.cell? ⟨(w.heap.size + 1), 11, none⟩ = some (.string ⟨t1.toArray⟩) := (Ha_1.out.below hSw).cell 11
        have hc12 : X.cell? ⟨(w.heap.size + 1), 12, none⟩ = some (.string ⟨t2.toArray⟩) := (Ha_1.out.below hSw).cell 12
        have hc13 : X.cell? ⟨(w.heap.size + 1), 13, none⟩ = some (.string ⟨t3.toArray⟩) := (Ha_1.out.below hSw).cell 13
        go_simp
        try with_reducible rfl
      rotate_left
      try simp only [Act.put, List.setIfInBounds_toArray, List.set_cons_zero, List.set_cons_succ, List.getElem_toArray, List.getElem_cons_zero, List.getElem_cons_succ]
      refine wpAnyH_ready (rs := [2]) (by kernel_rfl) (by simp) ?_
      refine (AllReadyH.cons rfl (fun K hK => ?_) AllReadyH.nil)
      rw [if_pos (by rfl)]
      go_wp2_with fail
      refine (HSH.out _).mono ?_
      rintro e wq ⟨rfl, hb⟩
      replace hHeld := below_trans hHeld hb (Below.size hHeld)
      rw [HA.out]
      clear hb
      refine hK.out _ _ hHeld (fun _ => ?_)
      clear hK K
      try simp only [Act.put, List.setIfInBounds_toArray, List.set_cons_zero, List.set_cons_succ, List.getElem_toArray, List.getElem_cons_zero, List.getElem_cons_succ]
      refine wpAnyH_take (i := 3) (v := ?_) rfl (by kernel_rfl) (by kernel_rfl) (by kernel_rfl) (fun _ _ _ h => h) (Or.inl ⟨by rfl, ?_⟩) (by assumption) ?_
      rotate_left
      · intro X hSw
        go_simp
        try with_reducible rfl
      rotate_left
      try simp only [Act.put, List.setIfInBounds_toArray, List.set_cons_zero, List.set_cons_succ, List.getElem_toArray, List.getElem_cons_zero, List.getElem_cons_succ]
      refine wpAnyH_take (i := 4) (v := ?_) rfl (by kernel_rfl) (by kernel_rfl) (by kernel_rfl) (fun _ _ _ h => h) (Or.inl ⟨by rfl, ?_⟩) (by assumption) ?_
      rotate_left
      · intro X hSw
        go_simp
        try with_reducible rfl
      rotate_left
      try simp only [Act.put, List.setIfInBounds_toArray, List.set_cons_zero, List.set_cons_succ, List.getElem_toArray, List.getElem_cons_zero, List.getElem_cons_succ]
      refine wpAnyH_take (i := 5) (v := ?_) rfl (by kernel_rfl) (by kernel_rfl) (by kernel_rfl) (fun _ _ _ h => h) (Or.inl ⟨by rfl, ?_⟩) (by assumption) ?_
      rotate_left
      · intro X hSw
        go_simp
        try with_reducible rfl
      rotate_left
      try simp only [Act.put, List.setIfInBounds_toArray, List.set_cons_zero, List.set_cons_succ, List.getElem_toArray, List.getElem_cons_zero, List.getElem_cons_succ]
      refine wpAnyH_take (i := 6) (v := ?_) rfl (by kernel_rfl) (by kernel_rfl) (by kernel_rfl) (fun _ _ _ h => h) (Or.inl ⟨by rfl, ?_⟩) (by assumption) ?_
      rotate_left
      · intro X hSw
        go_simp
        try with_reducible rfl
      rotate_left
      try simp only [Act.put, List.setIfInBounds_toArray, List.set_cons_zero, List.set_cons_succ, List.getElem_toArray, List.getElem_cons_zero, List.getElem_cons_succ]
      refine wpAnyH_take (i := 7) (v := ?_) rfl (by kernel_rfl) (by kernel_rfl) (by kernel_rfl) (fun _ _ _ h => h) (Or.inl ⟨by rfl, ?_⟩) (by assumption) ?_
      rotate_left
      · intro X hSw
        have hc0 : X.cell? ⟨(w.heap.size + 2), 0, none⟩ = some (.int .i64 r1) := (Hr_1.out.below hSw).cell 0
        have hc1 : X.cell? ⟨(w.heap.size + 2), 1, none⟩ = some (.int .i64 r2) := (Hr_1.out.below hSw).cell 1
        have hc2 : X.cell? ⟨(w.heap.size + 2), 2, none⟩ = some (.int .i64 r3) := (Hr_1.out.below hSw).cell 2
        have hc3 : X.cell? ⟨(w.heap.size + 2), 3, none⟩ = some (.int .i64 r4) := (Hr_1.out.below hSw).cell 3
        have hc4 : X.cell? ⟨(w.heap.size + 2), 4, none⟩ = some (.int .i64 r5) := (Hr_1.out.below hSw).cell 4
        have hc5 : X.cell? ⟨(w.heap.size + 2), 5, none⟩ = some (.int .i64 r6) := (Hr_1.out.below hSw).cell 5
        have hc6 : X.cell? ⟨(w.heap.size + 2), 6, none⟩ = some (.int .i64 r7) := (Hr_1.out.below hSw).cell 6
        have hc7 : X.cell? ⟨(w.heap.size + 2), 7, none⟩ = some (.int .i64 r8) := (Hr_1.out.below hSw).cell 7
        have hc8 : X.cell? ⟨(w.heap.size + 2), 8, none⟩ = some (.int .i64 r9) := (Hr_1.out.below hSw).cell 8
        have hc9 : X.cell? ⟨(w.heap.size + 2), 9, none⟩ = some (.string ⟨tx.toArray⟩) := (Hr_1.out.below hSw).cell 9
        have hc10 : X.cell? ⟨(w.heap.size + 2), 10, none⟩ = some (.slice A ls.length cp) := (Hr_1.out.below hSw).cell 10
        go_simp
        try with_reducible rfl
      rotate_left
      try simp only [Act.put, List.setIfInBounds_toArray, List.set_cons_zero, List.set_cons_succ, List.getElem_toArray, List.getElem_cons_zero, List.getElem_cons_succ]
      refine wpAnyH_take (i := 8) (v := ?_) rfl (by kernel_rfl) (by kernel_rfl) (by kernel_rfl) (fun _ _ _ h => h) (Or.inl ⟨by rfl, ?_⟩) (by assumption) ?_
      rotate_left
      · intro X hSw
        go_simp
        try with_reducible rfl
      rotate_left
      try simp only [Act.put, List.setIfInBounds_toArray, List.set_cons_zero, List.set_cons_succ, List.getElem_toArray, List.getElem_cons_zero, List.getElem_cons_succ]
      refine wpAnyH_take (i := 9) (v := ?_) rfl (by kernel_rfl) (by kernel_rfl) (by kernel_rfl) (fun _ _ _ h => h) (Or.inl ⟨by rfl, ?_⟩) (by assumption) ?_
      rotate_left
      · intro X hSw
        go_simp
        try with_reducible rfl
      rotate_left
      try simp only [Act.put, List.setIfInBounds_toArray, List.set_cons_zero, List.set_cons_succ, List.getElem_toArray, List.getElem_cons_zero, List.getElem_cons_succ]
      refine wpAnyH_take (i := 10) (v := ?_) rfl (by kernel_rfl) (by kernel_rfl) (by kernel_rfl) (fun _ _ _ h => h) (Or.inl ⟨by rfl, ?_⟩) (by assumption) ?_
      rotate_left
      · intro X hSw
        go_simp
        try with_reducible rfl
      rotate_left
      try simp only [Act.put, List.setIfInBounds_toArray, List.set_cons_zero, List.set_cons_succ, List.getElem_toArray, List.getElem_cons_zero, List.getElem_cons_succ]
      refine wpAnyH_take (i := 11) (v := ?_) rfl (by kernel_rfl) (by kernel_rfl) (by kernel_rfl) (fun _ _ _ h => h) (Or.inl ⟨by rfl, ?_⟩) (by assumption) ?_
      rotate_left
      · intro X hSw
        have hc0 : X.cell? ⟨(w.heap.size + 2), 0, none⟩ = some (.int .i64 r1) := (Hr_1.out.below hSw).cell 0
        have hc1 : X.cell? ⟨(w.heap.size + 2), 1, none⟩ = some (.int .i64 r2) := (Hr_1.out.below hSw).cell 1
        have hc2 : X.cell? ⟨(w.heap.size + 2), 2, none⟩ = some (.int .i64 r3) := (Hr_1.out.below hSw).cell 2
        have hc3 : X.cell? ⟨(w.heap.size + 2), 3, none⟩ = some (.int .i64 r4) := (Hr_1.out.below hSw).cell 3
        have hc4 : X.cell? ⟨(w.heap.size + 2), 4, none⟩ = some (.int .i64 r5) := (Hr_1.out.below hSw).cell 4
        have hc5 : X.cell? ⟨(w.heap.size + 2), 5, none⟩ = some (.int .i64 r6) := (Hr_1.out.below hSw).cell 5
        have hc6 : X.cell? ⟨(w.heap.size + 2), 6, none⟩ = some (.int .i64 r7) := (Hr_1.out.below hSw).cell 6
        have hc7 : X.cell? ⟨(w.heap.size + 2), 7, none⟩ = some (.int .i64 r8) := (Hr_1.out.below hSw).cell 7
        have hc8 : X.cell? ⟨(w.heap.size + 2), 8, none⟩ = some (.int .i64 r9) := (Hr_1.out.below hSw).cell 8
        have hc9 : X.cell? ⟨(w.heap.size + 2), 9, none⟩ = some (.string ⟨tx.toArray⟩) := (Hr_1.out.below hSw).cell 9
        have hc10 : X.cell? ⟨(w.heap.size + 2), 10, none⟩ = some (.slice A ls.length cp) := (Hr_1.out.below hSw).cell 10
        go_simp
        try with_reducible rfl
      rotate_left
      try simp only [Act.put, List.setIfInBounds_toArray, List.set_cons_zero, List.set_cons_succ, List.getElem_toArray, List.getElem_cons_zero, List.getElem_cons_succ]
      refine wpAnyH_ready (rs := [12]) (by kernel_rfl) (by simp) ?_
      refine (AllReadyH.cons rfl (fun K hK => ?_) AllReadyH.nil)
      rw [if_pos (by rfl)]
      go_wp2_with fail
      refine (HLG.out _ _ (Rn_1.out.below hHeld)).mono ?_
      rintro e wq2 ⟨rfl, rfl⟩
      refine hK.out _ _ hHeld (fun _ => ?_)
      clear hK K
      try simp only [Act.put, List.setIfInBounds_toArray, List.set_cons_zero, List.set_cons_succ, List.getElem_toArray, List.getElem_cons_zero, List.getElem_cons_succ]
      refine wpAnyH_take (i := 13) (v := ?_) rfl (by kernel_rfl) (by kernel_rfl) (by kernel_rfl) (fun _ _ _ h => h) (Or.inl ⟨by rfl, ?_⟩) (by assumption) ?_
      rotate_left
      · intro X hSw
        go_simp
        try with_reducible rfl
      rotate_left
      try simp only [Act.put, List.setIfInBounds_toArray, List.set_cons_zero, List.set_cons_succ, List.getElem_toArray, List.getElem_cons_zero, List.getElem_cons_succ]
      refine wpAnyH_take (i := 14) (v := .bool false) rfl (by kernel_rfl) (by kernel_rfl) (by kernel_rfl) (fun _ _ _ h => h) (Or.inl ⟨by rfl, ?_⟩) (by assumption) ?_
      · intro X hSw
        go_simp
        rw [HWR.out]
        exact hbig
      try simp only [Act.put, List.setIfInBounds_toArray, List.set_cons_zero, List.set_cons_succ, List.getElem_toArray, List.getElem_cons_zero, List.getElem_cons_succ]
      refine wpAnyH_take (i := 15) (v := ?_) rfl (by kernel_rfl) (by kernel_rfl) (by kernel_rfl) (fun _ _ _ h => h) (Or.inl ⟨by rfl, ?_⟩) (by assumption) ?_
      rotate_left
      · intro X hSw
        go_simp
        try with_reducible rfl
      rotate_left
      try simp only [Act.put, List.setIfInBounds_toArray, List.set_cons_zero, List.set_cons_succ, List.getElem_toArray, List.getElem_cons_zero, List.getElem_cons_succ]
      refine wpAnyH_take (i := 16) (v := ?_) rfl (by kernel_rfl) (by kernel_rfl) (by kernel_rfl) (fun _ _ _ h => h) (Or.inl ⟨by rfl, ?_⟩) (by assumption) ?_
      rotate_left
      · intro X hSw
        go_simp
        try with_reducible rfl
      rotate_left
      try simp only [Act.put, List.setIfInBounds_toArray, List.set_cons_zero, List.set_cons_succ, List.getElem_toArray, List.getElem_cons_zero, List.getElem_cons_succ]
      refine wpAnyH_take (i := 17) (v := ?_) rfl (by kernel_rfl) (by kernel_rfl) (by kernel_rfl) (fun _ _ _ h => h) (Or.inl ⟨by rfl, ?_⟩) (by assumption) ?_
      rotate_left
      · intro X hSw
        go_simp
        try with_reducible rfl
      rotate_left
      try simp only [Act.put, List.setIfInBounds_toArray, List.set_cons_zero, List.set_cons_succ, List.getElem_toArray, List.getElem_cons_zero, List.getElem_cons_succ]
      refine wpAnyH_take (i := 18) (v := ?_) rfl (by kernel_rfl) (by kernel_rfl) (by kernel_rfl) (fun _ _ _ h => h) (Or.inl ⟨by rfl, ?_⟩) (by assumption) ?_
      rotate_left
      · intro X hSw
        go_simp
        try with_reducible rfl
      rotate_left
      try simp only [Act.put, List.setIfInBounds_toArray, List.set_cons_zero, List.set_cons_succ, List.getElem_toArray, List.getElem_cons_zero, List.getElem_cons_succ]
      refine wpAnyH_take (i := 19) (v := ?_) rfl (by kernel_rfl) (by kernel_rfl) (by kernel_rfl) (fun _ _ _ h => h) (Or.inl ⟨by rfl, ?_⟩) (by assumption) ?_
      rotate_left
      · intro X hSw
        go_simp
        try with_reducible rfl
      rotate_left
      try simp only [Act.put, List.setIfInBounds_toArray, List.set_cons_zero, List.set_cons_succ, List.getElem_toArray, List.getElem_cons_zero, List.getElem_cons_succ]
      refine wpAnyH_take (i := 20) (v := ?_) rfl (by kernel_rfl) (by kernel_rfl) (by kernel_rfl) (fun _ _ _ h => h) (Or.inl ⟨by rfl, ?_⟩) (by assumption) ?_
      rotate_left
      · intro X hSw
        go_simp
        try with_reducible rfl
      rotate_left
      try simp only [Act.put, List.setIfInBounds_toArray, List.set_cons_zero, List.set_cons_succ, List.getElem_toArray, List.getElem_cons_zero, List.getElem_cons_succ]
      refine wpAnyH_take (i := 21) (v := undef) rfl (by kernel_rfl) (by kernel_rfl) (by kernel_rfl) (fun _ _ _ h => h) (Or.inr ⟨by rfl, rfl⟩) (by assumption) ?_
      try simp only [Act.put, List.setIfInBounds_toArray, List.set_cons_zero, List.set_cons_succ, List.getElem_toArray, List.getElem_cons_zero, List.getElem_cons_succ]
      refine wpAnyH_take (i := 22) (v := undef) rfl (by kernel_rfl) (by kernel_rfl) (by kernel_rfl) (fun _ _ _ h => h) (Or.inr ⟨by rfl, rfl⟩) (by assumption) ?_
      try simp only [Act.put, List.setIfInBounds_toArray, List.set_cons_zero, List.set_cons_succ, List.getElem_toArray, List.getElem_cons_zero, List.getElem_cons_succ]
      refine wpAnyH_take (i := 23) (v := ?_) rfl (by kernel_rfl) (by kernel_rfl) (by kernel_rfl) (fun _ _ _ h => h) (Or.inl ⟨by rfl, ?_⟩) (by assumption) ?_
      rotate_left
      · intro X hSw
        go_simp
        try with_reducible rfl
      rotate_left
      try simp only [Act.put, List.setIfInBounds_toArray, List.set_cons_zero, List.set_cons_succ, List.getElem_toArray, List.getElem_cons_zero, List.getElem_cons_succ]
      refine wpAnyH_done (by kernel_rfl) ?_ _
      have Ha_r6 := Lib.hid (Ha_1.out.below hHeld)
      have Hr_r6 := Lib.hid (Hr_1.out.below hHeld)
      have Rn_r6 := Lib.hid (Rn_1.out.below hHeld)
      have BW_r6 := Lib.hid (below_trans BW_1.out hHeld BW_1.out.size)
      clear hHeld
      go_wp2_with fail
      go_ret
      exact ⟨rfl, BW_r6.out⟩
    have hyn : (by' == 0) = false := by rw [beq_eq_false_iff_ne]; exact hy0
    by_cases hat : at' < 0
    · clear hok hsa
      obtain ⟨wu1, hu1⟩ : ∃ u, u = w.alloc (.cells #[.int .i64 m1, .int .i64 m2, .int .i64 m3, .int .i64 m4, .int .i64 m5, .int .i64 m6, .int .i64 k1, .int .i64 k2, .int .i64 k3, .int .i64 k4, .int .i64 k5, .string ⟨t1.toArray⟩, .string ⟨t2.toArray⟩, .string ⟨t3.toArray⟩, .int .i64 r1, .int .i64 r2, .int .i64 r3, .int .i64 r4, .int .i64 r5, .int .i64 r6, .int .i64 r7, .int .i64 r8, .int .i64 r9, .string ⟨tx.toArray⟩, .slice A ls.length cp, .int .i64 at', .int .u8 by'] 55) := ⟨_, rfl⟩
      have su1 : wu1.heap.size = w.heap.size + 1 := by rw [hu1]; simp
      have tu1 : TBox wu1 (w.heap.size) 55 #[.int .i64 m1, .int .i64 m2, .int .i64 m3, .int .i64 m4, .int .i64 m5, .int .i64 m6, .int .i64 k1, .int .i64 k2, .int .i64 k3, .int .i64 k4, .int .i64 k5, .string ⟨t1.toArray⟩, .string ⟨t2.toArray⟩, .string ⟨t3.toArray⟩, .int .i64 r1, .int .i64 r2, .int .i64 r3, .int .i64 r4, .int .i64 r5, .int .i64 r6, .int .i64 r7, .int .i64 r8, .int .i64 r9, .string ⟨tx.toArray⟩, .slice A ls.length cp, .int .i64 at', .int .u8 by'] := by rw [hu1]; exact TBox.new _ _ _
      have bu1 : Below w.heap.size w wu1 := by rw [hu1]; exact (Below.refl _ _).alloc (Nat.le_refl _) _
      have BU1 := bu1
      obtain ⟨wu2, hu2⟩ : ∃ u, u = wu1.alloc (.cells #[.int .i64 m1, .int .i64 m2, .int .i64 m3, .int .i64 m4, .int .i64 m5, .int .i64 m6, .int .i64 k1, .int .i64 k2, .int .i64 k3, .int .i64 k4, .int .i64 k5, .string ⟨t1.toArray⟩, .string ⟨t2.toArray⟩, .string ⟨t3.toArray⟩] 25) := ⟨_, rfl⟩
      have su2 : wu2.heap.size = w.heap.size + 2 := by rw [hu2]; simp [su1]
      have tu2 : TBox wu2 (w.heap.size + 1) 25 #[.int .i64 m1, .int .i64 m2, .int .i64 m3, .int .i64 m4, .int .i64 m5, .int .i64 m6, .int .i64 k1, .int .i64 k2, .int .i64 k3, .int .i64 k4, .int .i64 k5, .string ⟨t1.toArray⟩, .string ⟨t2.toArray⟩, .string ⟨t3.toArray⟩] := by rw [hu2, ← su1]; exact TBox.new _ _ _
      have bu2 : Below wu1.heap.size wu1 wu2 := by rw [hu2]; exact (Below.refl _ _).alloc (Nat.le_refl _) _
      have BU2 := below_trans BU1 bu2 BU1.size
      obtain ⟨wu3, hu3⟩ : ∃ u, u = wu2.alloc (.cells #[.int .i64 r1, .int .i64 r2, .int .i64 r3, .int .i64 r4, .int .i64 r5, .int .i64 r6, .int .i64 r7, .int .i64 r8, .int .i64 r9, .string ⟨tx.toArray⟩, .slice A ls.length cp] 31) := ⟨_, rfl⟩
      have su3 : wu3.heap.size = w.heap.size + 3 := by rw [hu3]; simp [su2]
      have tu3 : TBox wu3 (w.heap.size + 2) 31 #[.int .i64 r1, .int .i64 r2, .int .i64 r3, .int .i64 r4, .int .i64 r5, .int .i64 r6, .int .i64 r7, .int .i64 r8, .int .i64 r9, .string ⟨tx.toArray⟩, .slice A ls.length cp] := by rw [hu3, ← su2]; exact TBox.new _ _ _
      have bu3 : Below wu2.heap.size wu2 wu3 := by rw [hu3]; exact (Below.refl _ _).alloc (Nat.le_refl _) _
      have BU3 := below_trans BU2 bu3 BU2.size
      have Hs0 := Lib.hid ((tu1.below bu2).below bu3)
      have Ha0 := Lib.hid (tu2.below bu3)
      have Hr0 := Lib.hid tu3
      have BW_0 := Lib.hid BU3
      have HW : Hid (wu3 = (((w.alloc (.cells #[.int .i64 m1, .int .i64 m2, .int .i64 m3, .int .i64 m4, .int .i64 m5, .int .i64 m6, .int .i64 k1, .int .i64 k2, .int .i64 k3, .int .i64 k4, .int .i64 k5, .string ⟨t1.toArray⟩, .string ⟨t2.toArray⟩, .string ⟨t3.toArray⟩, .int .i64 r1, .int .i64 r2, .int .i64 r3, .int .i64 r4, .int .i64 r5, .int .i64 r6, .int .i64 r7, .int .i64 r8, .int .i64 r9, .string ⟨tx.toArray⟩, .slice A ls.length cp, .int .i64 at', .int .u8 by'] 55)).alloc (.cells #[.int .i64 m1, .int .i64 m2, .int .i64 m3, .int .i64 m4, .int .i64 m5, .int .i64 m6, .int .i64 k1, .int .i64 k2, .int .i64 k3, .int .i64 k4, .int .i64 k5, .string ⟨t1.toArray⟩, .string ⟨t2.toArray⟩, .string ⟨t3.toArray⟩] 25)).alloc (.cells #[.int .i64 r1, .int .i64 r2, .int .i64 r3, .int .i64 r4, .int .i64 r5, .int .i64 r6, .int .i64 r7, .int .i64 r8, .int .i64 r9, .string ⟨tx.toArray⟩, .slice A ls.length cp] 31))) := Lib.hid (by rw [hu3, hu2, hu1])
      have HSZ := Lib.hid su3
      obtain ⟨W0, hW0⟩ : ∃ u, u = wu3 := ⟨_, rfl⟩
      rw [← hW0] at Hs0 Ha0 Hr0 BW_0 HW HSZ
      clear hW0 hu1 su1 tu1 bu1 BU1 hu2 su2 tu2 bu2 BU2 hu3 su3 tu3 bu3 BU3
      have Rn0 := Lib.hid (hrow.below BW_0.out)
      clear hrow
      go_enter Try.func6, Try.ntmps6
      go_wp2_with fail
      rw [← HW.out]
      refine (law_shown _).mono ?_
      rintro e w1 ⟨rfl, hb⟩
      have Ha_1 := Lib.hid (Ha0.out.below hb)
      have Hr_1 := Lib.hid (Hr0.out.below hb)
      have Rn_1 := Lib.hid (Rn0.out.below hb)
      have BW_1 := Lib.hid (below_trans BW_0.out hb BW_0.out.size)
      clear hb 
      go_wp2_with fail
      refine wp_region_held_drew (S := fun V => Below w1.heap.size w1 V) (by kernel_rfl) (below_dn (Below.refl _ _) 1) (fun hHeld => ?_)
      refine wpAnyH_take (i := 0) (v := ?_) rfl (by kernel_rfl) (by kernel_rfl) (by kernel_rfl) (fun _ _ _ h => h) (Or.inl ⟨by rfl, ?_⟩) (by assumption) ?_
      rotate_left
      · intro X hSw
        go_simp
        try with_reducible rfl
      rotate_left
      try simp only [Act.put, List.setIfInBounds_toArray, List.set_cons_zero, List.set_cons_succ, List.getElem_toArray, List.getElem_cons_zero, List.getElem_cons_succ]
      refine wpAnyH_take (i := 1) (v := ?_) rfl (by kernel_rfl) (by kernel_rfl) (by kernel_rfl) (fun _ _ _ h => h) (Or.inl ⟨by rfl, ?_⟩) (by assumption) ?_
      rotate_left
      · intro X hSw
        have hc0 : X.cell? ⟨(w.heap.size + 1), 0, none⟩ = some (.int .i64 m1) := (Ha_1.out.below hSw).cell 0
        have hc1 : X.cell? ⟨(w.heap.size + 1), 1, none⟩ = some (.int .i64 m2) := (Ha_1.out.below hSw).cell 1
        have hc2 : X.cell? ⟨(w.heap.size + 1), 2, none⟩ = some (.int .i64 m3) := (Ha_1.out.below hSw).cell 2
        have hc3 : X.cell? ⟨(w.heap.size + 1), 3, none⟩ = some (.int .i64 m4) := (Ha_1.out.below hSw).cell 3
        have hc4 : X.cell? ⟨(w.heap.size + 1), 4, none⟩ = some (.int .i64 m5) := (Ha_1.out.below hSw).cell 4
        have hc5 : X.cell? ⟨(w.heap.size + 1), 5, none⟩ = some (.int .i64 m6) := (Ha_1.out.below hSw).cell 5
        have hc6 : X.cell? ⟨(w.heap.size + 1), 6, none⟩ = some (.int .i64 k1) := (Ha_1.out.below hSw).cell 6
        have hc7 : X.cell? ⟨(w.heap.size + 1), 7, none⟩ = some (.int .i64 k2) := (Ha_1.out.below hSw).cell 7
        have hc8 : X.cell? ⟨(w.heap.size + 1), 8, none⟩ = some (.int .i64 k3) := (Ha_1.out.below hSw).cell 8
        have hc9 : X.cell? ⟨(w.heap.size + 1), 9, none⟩ = some (.int .i64 k4) := (Ha_1.out.below hSw).cell 9
        have hc10 : X.cell? ⟨(w.heap.size + 1), 10, none⟩ = some (.int .i64 k5) := (Ha_1.out.below hSw).cell 10
        have hc11 : X.cell? ⟨(w.heap.size + 1), 11, none⟩ = some (.string ⟨t1.toArray⟩) := (Ha_1.out.below hSw).cell 11
        have hc12 : X.cell? ⟨(w.heap.size + 1), 12, none⟩ = some (.string ⟨t2.toArray⟩) := (Ha_1.out.below hSw).cell 12
        have hc13 : X.cell? ⟨(w.heap.size + 1), 13, none⟩ = some (.string ⟨t3.toArray⟩) := (Ha_1.out.below hSw).cell 13
        go_simp
        try with_reducible rfl
      rotate_left
      try simp only [Act.put, List.setIfInBounds_toArray, List.set_cons_zero, List.set_cons_succ, List.getElem_toArray, List.getElem_cons_zero, List.getElem_cons_succ]
      refine wpAnyH_ready (rs := [2]) (by kernel_rfl) (by simp) ?_
      refine (AllReadyH.cons rfl (fun K hK => ?_) AllReadyH.nil)
      rw [if_pos (by rfl)]
      go_wp2_with fail
      refine (HSH.out _).mono ?_
      rintro e wq ⟨rfl, hb⟩
      replace hHeld := below_trans hHeld hb (Below.size hHeld)
      rw [HA.out]
      clear hb
      refine hK.out _ _ hHeld (fun _ => ?_)
      clear hK K
      try simp only [Act.put, List.setIfInBounds_toArray, List.set_cons_zero, List.set_cons_succ, List.getElem_toArray, List.getElem_cons_zero, List.getElem_cons_succ]
      refine wpAnyH_take (i := 3) (v := ?_) rfl (by kernel_rfl) (by kernel_rfl) (by kernel_rfl) (fun _ _ _ h => h) (Or.inl ⟨by rfl, ?_⟩) (by assumption) ?_
      rotate_left
      · intro X hSw
        go_simp
        try with_reducible rfl
      rotate_left
      try simp only [Act.put, List.setIfInBounds_toArray, List.set_cons_zero, List.set_cons_succ, List.getElem_toArray, List.getElem_cons_zero, List.getElem_cons_succ]
      refine wpAnyH_take (i := 4) (v := ?_) rfl (by kernel_rfl) (by kernel_rfl) (by kernel_rfl) (fun _ _ _ h => h) (Or.inl ⟨by rfl, ?_⟩) (by assumption) ?_
      rotate_left
      · intro X hSw
        go_simp
        try with_reducible rfl
      rotate_left
      try simp only [Act.put, List.setIfInBounds_toArray, List.set_cons_zero, List.set_cons_succ, List.getElem_toArray, List.getElem_cons_zero, List.getElem_cons_succ]
      refine wpAnyH_take (i := 5) (v := ?_) rfl (by kernel_rfl) (by kernel_rfl) (by kernel_rfl) (fun _ _ _ h => h) (Or.inl ⟨by rfl, ?_⟩) (by assumption) ?_
      rotate_left
      · intro X hSw
        go_simp
        try with_reducible rfl
      rotate_left
      try simp only [Act.put, List.setIfInBounds_toArray, List.set_cons_zero, List.set_cons_succ, List.getElem_toArray, List.getElem_cons_zero, List.getElem_cons_succ]
      refine wpAnyH_take (i := 6) (v := ?_) rfl (by kernel_rfl) (by kernel_rfl) (by kernel_rfl) (fun _ _ _ h => h) (Or.inl ⟨by rfl, ?_⟩) (by assumption) ?_
      rotate_left
      · intro X hSw
        go_simp
        try with_reducible rfl
      rotate_left
      try simp only [Act.put, List.setIfInBounds_toArray, List.set_cons_zero, List.set_cons_succ, List.getElem_toArray, List.getElem_cons_zero, List.getElem_cons_succ]
      refine wpAnyH_take (i := 7) (v := ?_) rfl (by kernel_rfl) (by kernel_rfl) (by kernel_rfl) (fun _ _ _ h => h) (Or.inl ⟨by rfl, ?_⟩) (by assumption) ?_
      rotate_left
      · intro X hSw
        have hc0 : X.cell? ⟨(w.heap.size + 2), 0, none⟩ = some (.int .i64 r1) := (Hr_1.out.below hSw).cell 0
        have hc1 : X.cell? ⟨(w.heap.size + 2), 1, none⟩ = some (.int .i64 r2) := (Hr_1.out.below hSw).cell 1
        have hc2 : X.cell? ⟨(w.heap.size + 2), 2, none⟩ = some (.int .i64 r3) := (Hr_1.out.below hSw).cell 2
        have hc3 : X.cell? ⟨(w.heap.size + 2), 3, none⟩ = some (.int .i64 r4) := (Hr_1.out.below hSw).cell 3
        have hc4 : X.cell? ⟨(w.heap.size + 2), 4, none⟩ = some (.int .i64 r5) := (Hr_1.out.below hSw).cell 4
        have hc5 : X.cell? ⟨(w.heap.size + 2), 5, none⟩ = some (.int .i64 r6) := (Hr_1.out.below hSw).cell 5
        have hc6 : X.cell? ⟨(w.heap.size + 2), 6, none⟩ = some (.int .i64 r7) := (Hr_1.out.below hSw).cell 6
        have hc7 : X.cell? ⟨(w.heap.size + 2), 7, none⟩ = some (.int .i64 r8) := (Hr_1.out.below hSw).cell 7
        have hc8 : X.cell? ⟨(w.heap.size + 2), 8, none⟩ = some (.int .i64 r9) := (Hr_1.out.below hSw).cell 8
        have hc9 : X.cell? ⟨(w.heap.size + 2), 9, none⟩ = some (.string ⟨tx.toArray⟩) := (Hr_1.out.below hSw).cell 9
        have hc10 : X.cell? ⟨(w.heap.size + 2), 10, none⟩ = some (.slice A ls.length cp) := (Hr_1.out.below hSw).cell 10
        go_simp
        try with_reducible rfl
      rotate_left
      try simp only [Act.put, List.setIfInBounds_toArray, List.set_cons_zero, List.set_cons_succ, List.getElem_toArray, List.getElem_cons_zero, List.getElem_cons_succ]
      refine wpAnyH_take (i := 8) (v := ?_) rfl (by kernel_rfl) (by kernel_rfl) (by kernel_rfl) (fun _ _ _ h => h) (Or.inl ⟨by rfl, ?_⟩) (by assumption) ?_
      rotate_left
      · intro X hSw
        go_simp
        try with_reducible rfl
      rotate_left
      try simp only [Act.put, List.setIfInBounds_toArray, List.set_cons_zero, List.set_cons_succ, List.getElem_toArray, List.getElem_cons_zero, List.getElem_cons_succ]
      refine wpAnyH_take (i := 9) (v := ?_) rfl (by kernel_rfl) (by kernel_rfl) (by kernel_rfl) (fun _ _ _ h => h) (Or.inl ⟨by rfl, ?_⟩) (by assumption) ?_
      rotate_left
      · intro X hSw
        go_simp
        try with_reducible rfl
      rotate_left
      try simp only [Act.put, List.setIfInBounds_toArray, List.set_cons_zero, List.set_cons_succ, List.getElem_toArray, List.getElem_cons_zero, List.getElem_cons_succ]
      refine wpAnyH_take (i := 10) (v := ?_) rfl (by kernel_rfl) (by kernel_rfl) (by kernel_rfl) (fun _ _ _ h => h) (Or.inl ⟨by rfl, ?_⟩) (by assumption) ?_
      rotate_left
      · intro X hSw
        go_simp
        try with_reducible rfl
      rotate_left
      try simp only [Act.put, List.setIfInBounds_toArray, List.set_cons_zero, List.set_cons_succ, List.getElem_toArray, List.getElem_cons_zero, List.getElem_cons_succ]
      refine wpAnyH_take (i := 11) (v := ?_) rfl (by kernel_rfl) (by kernel_rfl) (by kernel_rfl) (fun _ _ _ h => h) (Or.inl ⟨by rfl, ?_⟩) (by assumption) ?_
      rotate_left
      · intro X hSw
        have hc0 : X.cell? ⟨(w.heap.size + 2), 0, none⟩ = some (.int .i64 r1) := (Hr_1.out.below hSw).cell 0
        have hc1 : X.cell? ⟨(w.heap.size + 2), 1, none⟩ = some (.int .i64 r2) := (Hr_1.out.below hSw).cell 1
        have hc2 : X.cell? ⟨(w.heap.size + 2), 2, none⟩ = some (.int .i64 r3) := (Hr_1.out.below hSw).cell 2
        have hc3 : X.cell? ⟨(w.heap.size + 2), 3, none⟩ = some (.int .i64 r4) := (Hr_1.out.below hSw).cell 3
        have hc4 : X.cell? ⟨(w.heap.size + 2), 4, none⟩ = some (.int .i64 r5) := (Hr_1.out.below hSw).cell 4
        have hc5 : X.cell? ⟨(w.heap.size + 2), 5, none⟩ = some (.int .i64 r6) := (Hr_1.out.below hSw).cell 5
        have hc6 : X.cell? ⟨(w.heap.size + 2), 6, none⟩ = some (.int .i64 r7) := (Hr_1.out.below hSw).cell 6
        have hc7 : X.cell? ⟨(w.heap.size + 2), 7, none⟩ = some (.int .i64 r8) := (Hr_1.out.below hSw).cell 7
        have hc8 : X.cell? ⟨(w.heap.size + 2), 8, none⟩ = some (.int .i64 r9) := (Hr_1.out.below hSw).cell 8
        have hc9 : X.cell? ⟨(w.heap.size + 2), 9, none⟩ = some (.string ⟨tx.toArray⟩) := (Hr_1.out.below hSw).cell 9
        have hc10 : X.cell? ⟨(w.heap.size + 2), 10, none⟩ = some (.slice A ls.length cp) := (Hr_1.out.below hSw).cell 10
        go_simp
        try with_reducible rfl
      rotate_left
      try simp only [Act.put, List.setIfInBounds_toArray, List.set_cons_zero, List.set_cons_succ, List.getElem_toArray, List.getElem_cons_zero, List.getElem_cons_succ]
      refine wpAnyH_ready (rs := [12]) (by kernel_rfl) (by simp) ?_
      refine (AllReadyH.cons rfl (fun K hK => ?_) AllReadyH.nil)
      rw [if_pos (by rfl)]
      go_wp2_with fail
      refine (HLG.out _ _ (Rn_1.out.below hHeld)).mono ?_
      rintro e wq2 ⟨rfl, rfl⟩
      refine hK.out _ _ hHeld (fun _ => ?_)
      clear hK K
      try simp only [Act.put, List.setIfInBounds_toArray, List.set_cons_zero, List.set_cons_succ, List.getElem_toArray, List.getElem_cons_zero, List.getElem_cons_succ]
      refine wpAnyH_take (i := 13) (v := ?_) rfl (by kernel_rfl) (by kernel_rfl) (by kernel_rfl) (fun _ _ _ h => h) (Or.inl ⟨by rfl, ?_⟩) (by assumption) ?_
      rotate_left
      · intro X hSw
        go_simp
        try with_reducible rfl
      rotate_left
      try simp only [Act.put, List.setIfInBounds_toArray, List.set_cons_zero, List.set_cons_succ, List.getElem_toArray, List.getElem_cons_zero, List.getElem_cons_succ]
      refine wpAnyH_take (i := 14) (v := .bool false) rfl (by kernel_rfl) (by kernel_rfl) (by kernel_rfl) (fun _ _ _ h => h) (Or.inl ⟨by rfl, ?_⟩) (by assumption) ?_
      · intro X hSw
        go_simp
        rw [HWR.out]
        exact hbig
      try simp only [Act.put, List.setIfInBounds_toArray, List.set_cons_zero, List.set_cons_succ, List.getElem_toArray, List.getElem_cons_zero, List.getElem_cons_succ]
      refine wpAnyH_take (i := 15) (v := ?_) rfl (by kernel_rfl) (by kernel_rfl) (by kernel_rfl) (fun _ _ _ h => h) (Or.inl ⟨by rfl, ?_⟩) (by assumption) ?_
      rotate_left
      · intro X hSw
        go_simp
        try with_reducible rfl
      rotate_left
      try simp only [Act.put, List.setIfInBounds_toArray, List.set_cons_zero, List.set_cons_succ, List.getElem_toArray, List.getElem_cons_zero, List.getElem_cons_succ]
      refine wpAnyH_take (i := 16) (v := ?_) rfl (by kernel_rfl) (by kernel_rfl) (by kernel_rfl) (fun _ _ _ h => h) (Or.inl ⟨by rfl, ?_⟩) (by assumption) ?_
      rotate_left
      · intro X hSw
        go_simp
        try with_reducible rfl
      rotate_left
      try simp only [Act.put, List.setIfInBounds_toArray, List.set_cons_zero, List.set_cons_succ, List.getElem_toArray, List.getElem_cons_zero, List.getElem_cons_succ]
      refine wpAnyH_take (i := 17) (v := ?_) rfl (by kernel_rfl) (by kernel_rfl) (by kernel_rfl) (fun _ _ _ h => h) (Or.inl ⟨by rfl, ?_⟩) (by assumption) ?_
      rotate_left
      · intro X hSw
        go_simp
        try with_reducible rfl
      rotate_left
      try simp only [Act.put, List.setIfInBounds_toArray, List.set_cons_zero, List.set_cons_succ, List.getElem_toArray, List.getElem_cons_zero, List.getElem_cons_succ]
      refine wpAnyH_take (i := 18) (v := ?_) rfl (by kernel_rfl) (by kernel_rfl) (by kernel_rfl) (fun _ _ _ h => h) (Or.inl ⟨by rfl, ?_⟩) (by assumption) ?_
      rotate_left
      · intro X hSw
        go_simp
        try with_reducible rfl
      rotate_left
      try simp only [Act.put, List.setIfInBounds_toArray, List.set_cons_zero, List.set_cons_succ, List.getElem_toArray, List.getElem_cons_zero, List.getElem_cons_succ]
      refine wpAnyH_take (i := 19) (v := ?_) rfl (by kernel_rfl) (by kernel_rfl) (by kernel_rfl) (fun _ _ _ h => h) (Or.inl ⟨by rfl, ?_⟩) (by assumption) ?_
      rotate_left
      · intro X hSw
        go_simp
        try with_reducible rfl
      rotate_left
      try simp only [Act.put, List.setIfInBounds_toArray, List.set_cons_zero, List.set_cons_succ, List.getElem_toArray, List.getElem_cons_zero, List.getElem_cons_succ]
      refine wpAnyH_take (i := 20) (v := ?_) rfl (by kernel_rfl) (by kernel_rfl) (by kernel_rfl) (fun _ _ _ h => h) (Or.inl ⟨by rfl, ?_⟩) (by assumption) ?_
      rotate_left
      · intro X hSw
        go_simp
        try with_reducible rfl
      rotate_left
      try simp only [Act.put, List.setIfInBounds_toArray, List.set_cons_zero, List.set_cons_succ, List.getElem_toArray, List.getElem_cons_zero, List.getElem_cons_succ]
      refine wpAnyH_take (i := 21) (v := ?_) rfl (by kernel_rfl) (by kernel_rfl) (by kernel_rfl) (fun _ _ _ h => h) (Or.inl ⟨by rfl, ?_⟩) (by assumption) ?_
      rotate_left
      · intro X hSw
        go_simp
        try with_reducible rfl
      rotate_left
      try simp only [Act.put, List.setIfInBounds_toArray, List.set_cons_zero, List.set_cons_succ, List.getElem_toArray, List.getElem_cons_zero, List.getElem_cons_succ]
      refine wpAnyH_take (i := 22) (v := ?_) rfl (by kernel_rfl) (by kernel_rfl) (by kernel_rfl) (fun _ _ _ h => h) (Or.inl ⟨by rfl, ?_⟩) (by assumption) ?_
      rotate_left
      · intro X hSw
        go_simp
        try with_reducible rfl
      rotate_left
      try simp only [Act.put, List.setIfInBounds_toArray, List.set_cons_zero, List.set_cons_succ, List.getElem_toArray, List.getElem_cons_zero, List.getElem_cons_succ]
      refine wpAnyH_take (i := 23) (v := ?_) rfl (by kernel_rfl) (by kernel_rfl) (by kernel_rfl) (fun _ _ _ h => h) (Or.inl ⟨by rfl, ?_⟩) (by assumption) ?_
      rotate_left
      · intro X hSw
        go_simp
        try with_reducible rfl
      rotate_left
      try simp only [Act.put, List.setIfInBounds_toArray, List.set_cons_zero, List.set_cons_succ, List.getElem_toArray, List.getElem_cons_zero, List.getElem_cons_succ]
      refine wpAnyH_done (by kernel_rfl) ?_ _
      have Ha_r6 := Lib.hid (Ha_1.out.below hHeld)
      have Hr_r6 := Lib.hid (Hr_1.out.below hHeld)
      have Rn_r6 := Lib.hid (Rn_1.out.below hHeld)
      have BW_r6 := Lib.hid (below_trans BW_1.out hHeld BW_1.out.size)
      clear hHeld
      go_wp2_with fail
      go_ret
      exact ⟨rfl, BW_r6.out⟩
    obtain ⟨k, rfl⟩ := Int.eq_ofNat_of_zero_le (show 0 ≤ at' by omega)
    obtain ⟨y, rfl⟩ := Int.eq_ofNat_of_zero_le b20
    obtain ⟨wu1, hu1⟩ : ∃ u, u = w.alloc (.cells #[.int .i64 m1, .int .i64 m2, .int .i64 m3, .int .i64 m4, .int .i64 m5, .int .i64 m6, .int .i64 k1, .int .i64 k2, .int .i64 k3, .int .i64 k4, .int .i64 k5, .string ⟨t1.toArray⟩, .string ⟨t2.toArray⟩, .string ⟨t3.toArray⟩, .int .i64 r1, .int .i64 r2, .int .i64 r3, .int .i64 r4, .int .i64 r5, .int .i64 r6, .int .i64 r7, .int .i64 r8, .int .i64 r9, .string ⟨tx.toArray⟩, .slice A ls.length cp, .int .i64 (k : Int), .int .u8 (y : Int)] 55) := ⟨_, rfl⟩
    have su1 : wu1.heap.size = w.heap.size + 1 := by rw [hu1]; simp
    have tu1 : TBox wu1 (w.heap.size) 55 #[.int .i64 m1, .int .i64 m2, .int .i64 m3, .int .i64 m4, .int .i64 m5, .int .i64 m6, .int .i64 k1, .int .i64 k2, .int .i64 k3, .int .i64 k4, .int .i64 k5, .string ⟨t1.toArray⟩, .string ⟨t2.toArray⟩, .string ⟨t3.toArray⟩, .int .i64 r1, .int .i64 r2, .int .i64 r3, .int .i64 r4, .int .i64 r5, .int .i64 r6, .int .i64 r7, .int .i64 r8, .int .i64 r9, .string ⟨tx.toArray⟩, .slice A ls.length cp, .int .i64 (k : Int), .int .u8 (y : Int)] := by rw [hu1]; exact TBox.new _ _ _
    have bu1 : Below w.heap.size w wu1 := by rw [hu1]; exact (Below.refl _ _).alloc (Nat.le_refl _) _
    have BU1 := bu1
    obtain ⟨wu2, hu2⟩ : ∃ u, u = wu1.alloc (.cells #[.int .i64 m1, .int .i64 m2, .int .i64 m3, .int .i64 m4, .int .i64 m5, .int .i64 m6, .int .i64 k1, .int .i64 k2, .int .i64 k3, .int .i64 k4, .int .i64 k5, .string ⟨t1.toArray⟩, .string ⟨t2.toArray⟩, .string ⟨t3.toArray⟩] 25) := ⟨_, rfl⟩
    have su2 : wu2.heap.size = w.heap.size + 2 := by rw [hu2]; simp [su1]
    have tu2 : TBox wu2 (w.heap.size + 1) 25 #[.int .i64 m1, .int .i64 m2, .int .i64 m3, .int .i64 m4, .int .i64 m5, .int .i64 m6, .int .i64 k1, .int .i64 k2, .int .i64 k3, .int .i64 k4, .int .i64 k5, .string ⟨t1.toArray⟩, .string ⟨t2.toArray⟩, .string ⟨t3.toArray⟩] := by rw [hu2, ← su1]; exact TBox.new _ _ _
    have bu2 : Below wu1.heap.size wu1 wu2 := by rw [hu2]; exact (Below.refl _ _).alloc (Nat.le_refl _) _
    have BU2 := below_trans BU1 bu2 BU1.size
    obtain ⟨wu3, hu3⟩ : ∃ u, u = wu2.alloc (.cells #[.int .i64 r1, .int .i64 r2, .int .i64 r3, .int .i64 r4, .int .i64 r5, .int .i64 r6, .int .i64 r7, .int .i64 r8, .int .i64 r9, .string ⟨tx.toArray⟩, .slice A ls.length cp] 31) := ⟨_, rfl⟩
    have su3 : wu3.heap.size = w.heap.size + 3 := by rw [hu3]; simp [su2]
    have tu3 : TBox wu3 (w.heap.size + 2) 31 #[.int .i64 r1, .int .i64 r2, .int .i64 r3, .int .i64 r4, .int .i64 r5, .int .i64 r6, .int .i64 r7, .int .i64 r8, .int .i64 r9, .string ⟨tx.toArray⟩, .slice A ls.length cp] := by rw [hu3, ← su2]; exact TBox.new _ _ _
    have bu3 : Below wu2.heap.size wu2 wu3 := by rw [hu3]; exact (Below.refl _ _).alloc (Nat.le_refl _) _
    have BU3 := below_trans BU2 bu3 BU2.size
    have Hs0 := Lib.hid ((tu1.below bu2).below bu3)
    have Ha0 := Lib.hid (tu2.below bu3)
    have Hr0 := Lib.hid tu3
    have BW_0 := Lib.hid BU3
    have HW : Hid (wu3 = (((w.alloc (.cells #[.int .i64 m1, .int .i64 m2, .int .i64 m3, .int .i64 m4, .int .i64 m5, .int .i64 m6, .int .i64 k1, .int .i64 k2, .int .i64 k3, .int .i64 k4, .int .i64 k5, .string ⟨t1.toArray⟩, .string ⟨t2.toArray⟩, .string ⟨t3.toArray⟩, .int .i64 r1, .int .i64 r2, .int .i64 r3, .int .i64 r4, .int .i64 r5, .int .i64 r6, .int .i64 r7, .int .i64 r8, .int .i64 r9, .string ⟨tx.toArray⟩, .slice A ls.length cp, .int .i64 (k : Int), .int .u8 (y : Int)] 55)).alloc (.cells #[.int .i64 m1, .int .i64 m2, .int .i64 m3, .int .i64 m4, .int .i64 m5, .int .i64 m6, .int .i64 k1, .int .i64 k2, .int .i64 k3, .int .i64 k4, .int .i64 k5, .string ⟨t1.toArray⟩, .string ⟨t2.toArray⟩, .string ⟨t3.toArray⟩] 25)).alloc (.cells #[.int .i64 r1, .int .i64 r2, .int .i64 r3, .int .i64 r4, .int .i64 r5, .int .i64 r6, .int .i64 r7, .int .i64 r8, .int .i64 r9, .string ⟨tx.toArray⟩, .slice A ls.length cp] 31))) := Lib.hid (by rw [hu3, hu2, hu1])
    have HSZ := Lib.hid su3
    obtain ⟨W0, hW0⟩ : ∃ u, u = wu3 := ⟨_, rfl⟩
    rw [← hW0] at Hs0 Ha0 Hr0 BW_0 HW HSZ
    clear hW0 hu1 su1 tu1 bu1 BU1 hu2 su2 tu2 bu2 BU2 hu3 su3 tu3 bu3 BU3
    have Rn0 := Lib.hid (hrow.below BW_0.out)
    clear hrow
    go_enter Try.func6, Try.ntmps6
    go_wp2_with fail
    rw [← HW.out]
    refine (law_shown _).mono ?_
    rintro e w1 ⟨rfl, hb⟩
    have Ha_1 := Lib.hid (Ha0.out.below hb)
    have Hr_1 := Lib.hid (Hr0.out.below hb)
    have Rn_1 := Lib.hid (Rn0.out.below hb)
    have BW_1 := Lib.hid (below_trans BW_0.out hb BW_0.out.size)
    clear hb 
    go_wp2_with fail
    refine wp_region_held_drew (S := fun V => Below w1.heap.size w1 V) (by kernel_rfl) (below_dn (Below.refl _ _) 1) (fun hHeld => ?_)
    refine wpAnyH_take (i := 0) (v := ?_) rfl (by kernel_rfl) (by kernel_rfl) (by kernel_rfl) (fun _ _ _ h => h) (Or.inl ⟨by rfl, ?_⟩) (by assumption) ?_
    rotate_left
    · intro X hSw
      go_simp
      try with_reducible rfl
    rotate_left
    try simp only [Act.put, List.setIfInBounds_toArray, List.set_cons_zero, List.set_cons_succ, List.getElem_toArray, List.getElem_cons_zero, List.getElem_cons_succ]
    refine wpAnyH_take (i := 1) (v := ?_) rfl (by kernel_rfl) (by kernel_rfl) (by kernel_rfl) (fun _ _ _ h => h) (Or.inl ⟨by rfl, ?_⟩) (by assumption) ?_
    rotate_left
    · intro X hSw
      have hc0 : X.cell? ⟨(w.heap.size + 1), 0, none⟩ = some (.int .i64 m1) := (Ha_1.out.below hSw).cell 0
      have hc1 : X.cell? ⟨(w.heap.size + 1), 1, none⟩ = some (.int .i64 m2) := (Ha_1.out.below hSw).cell 1
      have hc2 : X.cell? ⟨(w.heap.size + 1), 2, none⟩ = some (.int .i64 m3) := (Ha_1.out.below hSw).cell 2
      have hc3 : X.cell? ⟨(w.heap.size + 1), 3, none⟩ = some (.int .i64 m4) := (Ha_1.out.below hSw).cell 3
      have hc4 : X.cell? ⟨(w.heap.size + 1), 4, none⟩ = some (.int .i64 m5) := (Ha_1.out.below hSw).cell 4
      have hc5 : X.cell? ⟨(w.heap.size + 1), 5, none⟩ = some (.int .i64 m6) := (Ha_1.out.below hSw).cell 5
      have hc6 : X.cell? ⟨(w.heap.size + 1), 6, none⟩ = some (.int .i64 k1) := (Ha_1.out.below hSw).cell 6
      have hc7 : X.cell? ⟨(w.heap.size + 1), 7, none⟩ = some (.int .i64 k2) := (Ha_1.out.below hSw).cell 7
      have hc8 : X.cell? ⟨(w.heap.size + 1), 8, none⟩ = some (.int .i64 k3) := (Ha_1.out.below hSw).cell 8
      have hc9 : X.cell? ⟨(w.heap.size + 1), 9, none⟩ = some (.int .i64 k4) := (Ha_1.out.below hSw).cell 9
      have hc10 : X.cell? ⟨(w.heap.size + 1), 10, none⟩ = some (.int .i64 k5) := (Ha_1.out.below hSw).cell 10
      have hc11 : X.cell? ⟨(w.heap.size + 1), 11, none⟩ = some (.string ⟨t1.toArray⟩) := (Ha_1.out.below hSw).cell 11
      have hc12 : X.cell? ⟨(w.heap.size + 1), 12, none⟩ = some (.string ⟨t2.toArray⟩) := (Ha_1.out.below hSw).cell 12
      have hc13 : X.cell? ⟨(w.heap.size + 1), 13, none⟩ = some (.string ⟨t3.toArray⟩) := (Ha_1.out.below hSw).cell 13
      go_simp
      try with_reducible rfl
    rotate_left
    try simp only [Act.put, List.setIfInBounds_toArray, List.set_cons_zero, List.set_cons_succ, List.getElem_toArray, List.getElem_cons_zero, List.getElem_cons_succ]
    refine wpAnyH_ready (rs := [2]) (by kernel_rfl) (by simp) ?_
    refine (AllReadyH.cons rfl (fun K hK => ?_) AllReadyH.nil)
    rw [if_pos (by rfl)]
    go_wp2_with fail
    refine (HSH.out _).mono ?_
    rintro e wq ⟨rfl, hb⟩
    replace hHeld := below_trans hHeld hb (Below.size hHeld)
    rw [HA.out]
    clear hb
    refine hK.out _ _ hHeld (fun _ => ?_)
    clear hK K
    try simp only [Act.put, List.setIfInBounds_toArray, List.set_cons_zero, List.set_cons_succ, List.getElem_toArray, List.getElem_cons_zero, List.getElem_cons_succ]
    refine wpAnyH_take (i := 3) (v := ?_) rfl (by kernel_rfl) (by kernel_rfl) (by kernel_rfl) (fun _ _ _ h => h) (Or.inl ⟨by rfl, ?_⟩) (by assumption) ?_
    rotate_left
    · intro X hSw
      go_simp
      try with_reducible rfl
    rotate_left
    try simp only [Act.put, List.setIfInBounds_toArray, List.set_cons_zero, List.set_cons_succ, List.getElem_toArray, List.getElem_cons_zero, List.getElem_cons_succ]
    refine wpAnyH_take (i := 4) (v := ?_) rfl (by kernel_rfl) (by kernel_rfl) (by kernel_rfl) (fun _ _ _ h => h) (Or.inl ⟨by rfl, ?_⟩) (by assumption) ?_
    rotate_left
    · intro X hSw
      go_simp
      try with_reducible rfl
    rotate_left
    try simp only [Act.put, List.setIfInBounds_toArray, List.set_cons_zero, List.set_cons_succ, List.getElem_toArray, List.getElem_cons_zero, List.getElem_cons_succ]
    refine wpAnyH_take (i := 5) (v := ?_) rfl (by kernel_rfl) (by kernel_rfl) (by kernel_rfl) (fun _ _ _ h => h) (Or.inl ⟨by rfl, ?_⟩) (by assumption) ?_
    rotate_left
    · intro X hSw
      go_simp
      try with_reducible rfl
    rotate_left
    try simp only [Act.put, List.setIfInBounds_toArray, List.set_cons_zero, List.set_cons_succ, List.getElem_toArray, List.getElem_cons_zero, List.getElem_cons_succ]
    refine wpAnyH_take (i := 6) (v := ?_) rfl (by kernel_rfl) (by kernel_rfl) (by kernel_rfl) (fun _ _ _ h => h) (Or.inl ⟨by rfl, ?_⟩) (by assumption) ?_
    rotate_left
    · intro X hSw
      go_simp
      try with_reducible rfl
    rotate_left
    try simp only [Act.put, List.setIfInBounds_toArray, List.set_cons_zero, List.set_cons_succ, List.getElem_toArray, List.getElem_cons_zero, List.getElem_cons_succ]
    refine wpAnyH_take (i := 7) (v := ?_) rfl (by kernel_rfl) (by kernel_rfl) (by kernel_rfl) (fun _ _ _ h => h) (Or.inl ⟨by rfl, ?_⟩) (by assumption) ?_
    rotate_left
    · intro X hSw
      have hc0 : X.cell? ⟨(w.heap.size + 2), 0, none⟩ = some (.int .i64 r1) := (Hr_1.out.below hSw).cell 0
      have hc1 : X.cell? ⟨(w.heap.size + 2), 1, none⟩ = some (.int .i64 r2) := (Hr_1.out.below hSw).cell 1
      have hc2 : X.cell? ⟨(w.heap.size + 2), 2, none⟩ = some (.int .i64 r3) := (Hr_1.out.below hSw).cell 2
      have hc3 : X.cell? ⟨(w.heap.size + 2), 3, none⟩ = some (.int .i64 r4) := (Hr_1.out.below hSw).cell 3
      have hc4 : X.cell? ⟨(w.heap.size + 2), 4, none⟩ = some (.int .i64 r5) := (Hr_1.out.below hSw).cell 4
      have hc5 : X.cell? ⟨(w.heap.size + 2), 5, none⟩ = some (.int .i64 r6) := (Hr_1.out.below hSw).cell 5
      have hc6 : X.cell? ⟨(w.heap.size + 2), 6, none⟩ = some (.int .i64 r7) := (Hr_1.out.below hSw).cell 6
      have hc7 : X.cell? ⟨(w.heap.size + 2), 7, none⟩ = some (.int .i64 r8) := (Hr_1.out.below hSw).cell 7
      have hc8 : X.cell? ⟨(w.heap.size + 2), 8, none⟩ = some (.int .i64 r9) := (Hr_1.out.below hSw).cell 8
      have hc9 : X.cell? ⟨(w.heap.size + 2), 9, none⟩ = some (.string ⟨tx.toArray⟩) := (Hr_1.out.below hSw).cell 9
      have hc10 : X.cell? ⟨(w.heap.size + 2), 10, none⟩ = some (.slice A ls.length cp) := (Hr_1.out.below hSw).cell 10
      go_simp
      try with_reducible rfl
    rotate_left
    try simp only [Act.put, List.setIfInBounds_toArray, List.set_cons_zero, List.set_cons_succ, List.getElem_toArray, List.getElem_cons_zero, List.getElem_cons_succ]
    refine wpAnyH_take (i := 8) (v := ?_) rfl (by kernel_rfl) (by kernel_rfl) (by kernel_rfl) (fun _ _ _ h => h) (Or.inl ⟨by rfl, ?_⟩) (by assumption) ?_
    rotate_left
    · intro X hSw
      go_simp
      try with_reducible rfl
    rotate_left
    try simp only [Act.put, List.setIfInBounds_toArray, List.set_cons_zero, List.set_cons_succ, List.getElem_toArray, List.getElem_cons_zero, List.getElem_cons_succ]
    refine wpAnyH_take (i := 9) (v := ?_) rfl (by kernel_rfl) (by kernel_rfl) (by kernel_rfl) (fun _ _ _ h => h) (Or.inl ⟨by rfl, ?_⟩) (by assumption) ?_
    rotate_left
    · intro X hSw
      go_simp
      try with_reducible rfl
    rotate_left
    try simp only [Act.put, List.setIfInBounds_toArray, List.set_cons_zero, List.set_cons_succ, List.getElem_toArray, List.getElem_cons_zero, List.getElem_cons_succ]
    refine wpAnyH_take (i := 10) (v := ?_) rfl (by kernel_rfl) (by kernel_rfl) (by kernel_rfl) (fun _ _ _ h => h) (Or.inl ⟨by rfl, ?_⟩) (by assumption) ?_
    rotate_left
    · intro X hSw
      go_simp
      try with_reducible rfl
    rotate_left
    try simp only [Act.put, List.setIfInBounds_toArray, List.set_cons_zero, List.set_cons_succ, List.getElem_toArray, List.getElem_cons_zero, List.getElem_cons_succ]
    refine wpAnyH_take (i := 11) (v := ?_) rfl (by kernel_rfl) (by kernel_rfl) (by kernel_rfl) (fun _ _ _ h => h) (Or.inl ⟨by rfl, ?_⟩) (by assumption) ?_
    rotate_left
    · intro X hSw
      have hc0 : X.cell? ⟨(w.heap.size + 2), 0, none⟩ = some (.int .i64 r1) := (Hr_1.out.below hSw).cell 0
      have hc1 : X.cell? ⟨(w.heap.size + 2), 1, none⟩ = some (.int .i64 r2) := (Hr_1.out.below hSw).cell 1
      have hc2 : X.cell? ⟨(w.heap.size + 2), 2, none⟩ = some (.int .i64 r3) := (Hr_1.out.below hSw).cell 2
      have hc3 : X.cell? ⟨(w.heap.size + 2), 3, none⟩ = some (.int .i64 r4) := (Hr_1.out.below hSw).cell 3
      have hc4 : X.cell? ⟨(w.heap.size + 2), 4, none⟩ = some (.int .i64 r5) := (Hr_1.out.below hSw).cell 4
      have hc5 : X.cell? ⟨(w.heap.size + 2), 5, none⟩ = some (.int .i64 r6) := (Hr_1.out.below hSw).cell 5
      have hc6 : X.cell? ⟨(w.heap.size + 2), 6, none⟩ = some (.int .i64 r7) := (Hr_1.out.below hSw).cell 6
      have hc7 : X.cell? ⟨(w.heap.size + 2), 7, none⟩ = some (.int .i64 r8) := (Hr_1.out.below hSw).cell 7
      have hc8 : X.cell? ⟨(w.heap.size + 2), 8, none⟩ = some (.int .i64 r9) := (Hr_1.out.below hSw).cell 8
      have hc9 : X.cell? ⟨(w.heap.size + 2), 9, none⟩ = some (.string ⟨tx.toArray⟩) := (Hr_1.out.below hSw).cell 9
      have hc10 : X.cell? ⟨(w.heap.size + 2), 10, none⟩ = some (.slice A ls.length cp) := (Hr_1.out.below hSw).cell 10
      go_simp
      try with_reducible rfl
    rotate_left
    try simp only [Act.put, List.setIfInBounds_toArray, List.set_cons_zero, List.set_cons_succ, List.getElem_toArray, List.getElem_cons_zero, List.getElem_cons_succ]
    refine wpAnyH_ready (rs := [12]) (by kernel_rfl) (by simp) ?_
    refine (AllReadyH.cons rfl (fun K hK => ?_) AllReadyH.nil)
    rw [if_pos (by rfl)]
    go_wp2_with fail
    refine (HLG.out _ _ (Rn_1.out.below hHeld)).mono ?_
    rintro e wq2 ⟨rfl, rfl⟩
    refine hK.out _ _ hHeld (fun _ => ?_)
    clear hK K
    try simp only [Act.put, List.setIfInBounds_toArray, List.set_cons_zero, List.set_cons_succ, List.getElem_toArray, List.getElem_cons_zero, List.getElem_cons_succ]
    refine wpAnyH_take (i := 13) (v := ?_) rfl (by kernel_rfl) (by kernel_rfl) (by kernel_rfl) (fun _ _ _ h => h) (Or.inl ⟨by rfl, ?_⟩) (by assumption) ?_
    rotate_left
    · intro X hSw
      go_simp
      try with_reducible rfl
    rotate_left
    try simp only [Act.put, List.setIfInBounds_toArray, List.set_cons_zero, List.set_cons_succ, List.getElem_toArray, List.getElem_cons_zero, List.getElem_cons_succ]
    refine wpAnyH_take (i := 14) (v := .bool false) rfl (by kernel_rfl) (by kernel_rfl) (by kernel_rfl) (fun _ _ _ h => h) (Or.inl ⟨by rfl, ?_⟩) (by assumption) ?_
    · intro X hSw
      go_simp
      rw [HWR.out]
      exact hbig
    try simp only [Act.put, List.setIfInBounds_toArray, List.set_cons_zero, List.set_cons_succ, List.getElem_toArray, List.getElem_cons_zero, List.getElem_cons_succ]
    refine wpAnyH_take (i := 15) (v := ?_) rfl (by kernel_rfl) (by kernel_rfl) (by kernel_rfl) (fun _ _ _ h => h) (Or.inl ⟨by rfl, ?_⟩) (by assumption) ?_
    rotate_left
    · intro X hSw
      go_simp
      try with_reducible rfl
    rotate_left
    try simp only [Act.put, List.setIfInBounds_toArray, List.set_cons_zero, List.set_cons_succ, List.getElem_toArray, List.getElem_cons_zero, List.getElem_cons_succ]
    refine wpAnyH_take (i := 16) (v := ?_) rfl (by kernel_rfl) (by kernel_rfl) (by kernel_rfl) (fun _ _ _ h => h) (Or.inl ⟨by rfl, ?_⟩) (by assumption) ?_
    rotate_left
    · intro X hSw
      go_simp
      try with_reducible rfl
    rotate_left
    try simp only [Act.put, List.setIfInBounds_toArray, List.set_cons_zero, List.set_cons_succ, List.getElem_toArray, List.getElem_cons_zero, List.getElem_cons_succ]
    refine wpAnyH_take (i := 17) (v := ?_) rfl (by kernel_rfl) (by kernel_rfl) (by kernel_rfl) (fun _ _ _ h => h) (Or.inl ⟨by rfl, ?_⟩) (by assumption) ?_
    rotate_left
    · intro X hSw
      go_simp
      try with_reducible rfl
    rotate_left
    try simp only [Act.put, List.setIfInBounds_toArray, List.set_cons_zero, List.set_cons_succ, List.getElem_toArray, List.getElem_cons_zero, List.getElem_cons_succ]
    refine wpAnyH_take (i := 18) (v := ?_) rfl (by kernel_rfl) (by kernel_rfl) (by kernel_rfl) (fun _ _ _ h => h) (Or.inl ⟨by rfl, ?_⟩) (by assumption) ?_
    rotate_left
    · intro X hSw
      go_simp
      try with_reducible rfl
    rotate_left
    try simp only [Act.put, List.setIfInBounds_toArray, List.set_cons_zero, List.set_cons_succ, List.getElem_toArray, List.getElem_cons_zero, List.getElem_cons_succ]
    refine wpAnyH_take (i := 19) (v := ?_) rfl (by kernel_rfl) (by kernel_rfl) (by kernel_rfl) (fun _ _ _ h => h) (Or.inl ⟨by rfl, ?_⟩) (by assumption) ?_
    rotate_left
    · intro X hSw
      go_simp
      try with_reducible rfl
    rotate_left
    try simp only [Act.put, List.setIfInBounds_toArray, List.set_cons_zero, List.set_cons_succ, List.getElem_toArray, List.getElem_cons_zero, List.getElem_cons_succ]
    refine wpAnyH_take (i := 20) (v := ?_) rfl (by kernel_rfl) (by kernel_rfl) (by kernel_rfl) (fun _ _ _ h => h) (Or.inl ⟨by rfl, ?_⟩) (by assumption) ?_
    rotate_left
    · intro X hSw
      go_simp
      try with_reducible rfl
    rotate_left
    try simp only [Act.put, List.setIfInBounds_toArray, List.set_cons_zero, List.set_cons_succ, List.getElem_toArray, List.getElem_cons_zero, List.getElem_cons_succ]
    refine wpAnyH_take (i := 21) (v := ?_) rfl (by kernel_rfl) (by kernel_rfl) (by kernel_rfl) (fun _ _ _ h => h) (Or.inl ⟨by rfl, ?_⟩) (by assumption) ?_
    rotate_left
    · intro X hSw
      go_simp
      try with_reducible rfl
    rotate_left
    try simp only [Act.put, List.setIfInBounds_toArray, List.set_cons_zero, List.set_cons_succ, List.getElem_toArray, List.getElem_cons_zero, List.getElem_cons_succ]
    refine wpAnyH_take (i := 22) (v := ?_) rfl (by kernel_rfl) (by kernel_rfl) (by kernel_rfl) (fun _ _ _ h => h) (Or.inl ⟨by rfl, ?_⟩) (by assumption) ?_
    rotate_left
    · intro X hSw
      go_simp
      try with_reducible rfl
    rotate_left
    try simp only [Act.put, List.setIfInBounds_toArray, List.set_cons_zero, List.set_cons_succ, List.getElem_toArray, List.getElem_cons_zero, List.getElem_cons_succ]
    refine wpAnyH_take (i := 23) (v := ?_) rfl (by kernel_rfl) (by kernel_rfl) (by kernel_rfl) (fun _ _ _ h => h) (Or.inl ⟨by rfl, ?_⟩) (by assumption) ?_
    rotate_left
    · intro X hSw
      go_simp
      try with_reducible rfl
    rotate_left
    try simp only [Act.put, List.setIfInBounds_toArray, List.set_cons_zero, List.set_cons_succ, List.getElem_toArray, List.getElem_cons_zero, List.getElem_cons_succ]
    refine wpAnyH_done (by kernel_rfl) ?_ _
    have Ha_r6 := Lib.hid (Ha_1.out.below hHeld)
    have Hr_r6 := Lib.hid (Hr_1.out.below hHeld)
    have Rn_r6 := Lib.hid (Rn_1.out.below hHeld)
    have BW_r6 := Lib.hid (below_trans BW_1.out hHeld BW_1.out.size)
    clear hHeld
    have oc := hok hsa
    have okr2 : OkR 1000000000 ⟨r1, r2, r3, r4, r5, r6, r7, r8, r9, tx, ls⟩ := ⟨HI.out.2, by simp only; omega, by have := HLN.out; simp only; omega⟩
    have HMs := Lib.hid (fun W => wire_Msg ⟨m1, m2, m3, m4, m5, m6, ⟨k1, k2, k3, k4, k5, t1, t2, t3⟩⟩ W ⟨HI.out.1, oc.mono (by decide)⟩)
    have HRs := Lib.hid (fun W v hv => wire_Rsp ⟨r1, r2, r3, r4, r5, r6, r7, r8, r9, tx, ls⟩ v W hv okr2)
    have HPa := Lib.hid (takeMsg_spoilt ⟨m1, m2, m3, m4, m5, m6, ⟨k1, k2, k3, k4, k5, t1, t2, t3⟩⟩)
    have HPb := Lib.hid (takeRsp_spoilt ⟨r1, r2, r3, r4, r5, r6, r7, r8, r9, tx, ls⟩)
    have lm : (msgB ⟨m1, m2, m3, m4, m5, m6, ⟨k1, k2, k3, k4, k5, t1, t2, t3⟩⟩).length ≤ 1000000 := by
      rw [msgB, putB_len, List.length_cons, show msgI ⟨m1, m2, m3, m4, m5, m6, ⟨k1, k2, k3, k4, k5, t1, t2, t3⟩⟩ = numsB [m1, m2, m3, m4, m5, m6] ++ callB ⟨k1, k2, k3, k4, k5, t1, t2, t3⟩ from rfl, List.length_append]
      have h1 := numsB_len [m1, m2, m3, m4, m5, m6] (by
        obtain ⟨⟨h1, h2, h3, h4, h5, h6⟩, _⟩ := HI.out
        intro z hz; simp at hz; rcases hz with rfl | rfl | rfl | rfl | rfl | rfl <;> assumption)
      have h2 := callB_len _ _ oc (by decide)
      simp only [List.length_cons, List.length_nil] at h1
      omega
    have lr : (rspB ⟨r1, r2, r3, r4, r5, r6, r7, r8, r9, tx, ls⟩).length ≤ 10000000 := by
      rw [rspB, putB_len, List.length_cons, show rspI ⟨r1, r2, r3, r4, r5, r6, r7, r8, r9, tx, ls⟩ = numsB [r1, r2, r3, r4, r5] ++ (numsB [r6, r7, r8, r9] ++ (textB tx ++ listB ls)) from rfl]
      obtain ⟨_, h1, h2, h3, h4, h5, h6, h7, h8, h9⟩ := HI.out
      have g1 := numsB_len [r1, r2, r3, r4, r5] (by intro z hz; simp at hz; rcases hz with rfl | rfl | rfl | rfl | rfl <;> assumption)
      have g2 := numsB_len [r6, r7, r8, r9] (by intro z hz; simp at hz; rcases hz with rfl | rfl | rfl | rfl <;> assumption)
      have g3 := textB_len tx (by omega)
      have g4 := flat_len ls (by have := HLN.out; omega)
      have := HLN.out
      simp only [List.length_append, List.length_cons, List.length_nil] at *
      omega
    generalize msgB ⟨m1, m2, m3, m4, m5, m6, ⟨k1, k2, k3, k4, k5, t1, t2, t3⟩⟩ = MB at *
    generalize rspB ⟨r1, r2, r3, r4, r5, r6, r7, r8, r9, tx, ls⟩ = RB at *
    unfold RspV at HRs
    simp only [msgV, msgCells, rspCells] at HMs HRs
    clear oc okr2 hok hsa
    have ca_0 : wq.cell? ⟨(w.heap.size + 1), 0, none⟩ = some (.int .i64 m1) := Ha_r6.out.cell 0
    have ca_1 : wq.cell? ⟨(w.heap.size + 1), 1, none⟩ = some (.int .i64 m2) := Ha_r6.out.cell 1
    have ca_2 : wq.cell? ⟨(w.heap.size + 1), 2, none⟩ = some (.int .i64 m3) := Ha_r6.out.cell 2
    have ca_3 : wq.cell? ⟨(w.heap.size + 1), 3, none⟩ = some (.int .i64 m4) := Ha_r6.out.cell 3
    have ca_4 : wq.cell? ⟨(w.heap.size + 1), 4, none⟩ = some (.int .i64 m5) := Ha_r6.out.cell 4
    have ca_5 : wq.cell? ⟨(w.heap.size + 1), 5, none⟩ = some (.int .i64 m6) := Ha_r6.out.cell 5
    have ca_6 : wq.cell? ⟨(w.heap.size + 1), 6, none⟩ = some (.int .i64 k1) := Ha_r6.out.cell 6
    have ca_7 : wq.cell? ⟨(w.heap.size + 1), 7, none⟩ = some (.int .i64 k2) := Ha_r6.out.cell 7
    have ca_8 : wq.cell? ⟨(w.heap.size + 1), 8, none⟩ = some (.int .i64 k3) := Ha_r6.out.cell 8
    have ca_9 : wq.cell? ⟨(w.heap.size + 1), 9, none⟩ = some (.int .i64 k4) := Ha_r6.out.cell 9
    have ca_10 : wq.cell? ⟨(w.heap.size + 1), 10, none⟩ = some (.int .i64 k5) := Ha_r6.out.cell 10
    have ca_11 : wq.cell? ⟨(w.heap.size + 1), 11, none⟩ = some (.string ⟨t1.toArray⟩) := Ha_r6.out.cell 11
    have ca_12 : wq.cell? ⟨(w.heap.size + 1), 12, none⟩ = some (.string ⟨t2.toArray⟩) := Ha_r6.out.cell 12
    have ca_13 : wq.cell? ⟨(w.heap.size + 1), 13, none⟩ = some (.string ⟨t3.toArray⟩) := Ha_r6.out.cell 13
    go_wp2_with fail
    refine (HMs.out _).mono ?_
    rintro e w2 ⟨rfl, hb⟩
    have Ha_2 := Lib.hid (Ha_r6.out.below hb)
    have Hr_2 := Lib.hid (Hr_r6.out.below hb)
    have Rn_2 := Lib.hid (Rn_r6.out.below hb)
    have BW_2 := Lib.hid (below_trans BW_r6.out hb BW_r6.out.size)
    clear hb 
    clear ca_0 ca_1 ca_2 ca_3 ca_4 ca_5 ca_6 ca_7 ca_8 ca_9 ca_10 ca_11 ca_12 ca_13
    have hcv := Lib.run_convert_string_bytes (P := Try.prog) w2 9 56 5 ⟨MB.toArray⟩ Try.underlying9 Try.underlying56 Try.underlying5
    have hsz : (⟨MB.toArray⟩ : ByteArray).size = MB.length := by simp [ByteArray.size]
    rw [hsz] at hcv
    have HTa := Lib.hid (Bts.made w2 5 MB)
    have hbv := bytes_below w2 5 ⟨MB.toArray⟩
    generalize Lib.bytesWorld w2 5 ⟨MB.toArray⟩ = Va at *
    generalize grownCap w2 MB.length 0 5 = capa at *
    clear hsz
    have Ha_Va := Lib.hid (Ha_2.out.below hbv)
    have Hr_Va := Lib.hid (Hr_2.out.below hbv)
    have Rn_Va := Lib.hid (Rn_2.out.below hbv)
    have BW_Va := Lib.hid (below_trans BW_2.out hbv BW_2.out.size)
    clear hbv
    have cr_0 : Va.cell? ⟨(w.heap.size + 2), 0, none⟩ = some (.int .i64 r1) := Hr_Va.out.cell 0
    have cr_1 : Va.cell? ⟨(w.heap.size + 2), 1, none⟩ = some (.int .i64 r2) := Hr_Va.out.cell 1
    have cr_2 : Va.cell? ⟨(w.heap.size + 2), 2, none⟩ = some (.int .i64 r3) := Hr_Va.out.cell 2
    have cr_3 : Va.cell? ⟨(w.heap.size + 2), 3, none⟩ = some (.int .i64 r4) := Hr_Va.out.cell 3
    have cr_4 : Va.cell? ⟨(w.heap.size + 2), 4, none⟩ = some (.int .i64 r5) := Hr_Va.out.cell 4
    have cr_5 : Va.cell? ⟨(w.heap.size + 2), 5, none⟩ = some (.int .i64 r6) := Hr_Va.out.cell 5
    have cr_6 : Va.cell? ⟨(w.heap.size + 2), 6, none⟩ = some (.int .i64 r7) := Hr_Va.out.cell 6
    have cr_7 : Va.cell? ⟨(w.heap.size + 2), 7, none⟩ = some (.int .i64 r8) := Hr_Va.out.cell 7
    have cr_8 : Va.cell? ⟨(w.heap.size + 2), 8, none⟩ = some (.int .i64 r9) := Hr_Va.out.cell 8
    have cr_9 : Va.cell? ⟨(w.heap.size + 2), 9, none⟩ = some (.string ⟨tx.toArray⟩) := Hr_Va.out.cell 9
    have cr_10 : Va.cell? ⟨(w.heap.size + 2), 10, none⟩ = some (.slice A ls.length cp) := Hr_Va.out.cell 10
    go_wp2_with fail
    refine (HRs.out _ _ ⟨A, cp, rfl, Rn_Va.out⟩).mono ?_
    rintro e w3 ⟨rfl, hb⟩
    have Ha_3 := Lib.hid (Ha_Va.out.below hb)
    have Hr_3 := Lib.hid (Hr_Va.out.below hb)
    have Rn_3 := Lib.hid (Rn_Va.out.below hb)
    have Rta_3 := Lib.hid (HTa.out.below hb)
    have BW_3 := Lib.hid (below_trans BW_Va.out hb BW_Va.out.size)
    clear hb 
    clear cr_0 cr_1 cr_2 cr_3 cr_4 cr_5 cr_6 cr_7 cr_8 cr_9 cr_10 hcv
    have hcv := Lib.run_convert_string_bytes (P := Try.prog) w3 9 56 5 ⟨RB.toArray⟩ Try.underlying9 Try.underlying56 Try.underlying5
    have hsz : (⟨RB.toArray⟩ : ByteArray).size = RB.length := by simp [ByteArray.size]
    rw [hsz] at hcv
    have HTb := Lib.hid (Bts.made w3 5 RB)
    have hbv := bytes_below w3 5 ⟨RB.toArray⟩
    generalize Lib.bytesWorld w3 5 ⟨RB.toArray⟩ = Vb at *
    generalize grownCap w3 RB.length 0 5 = capb at *
    clear hsz
    have Ha_Vb := Lib.hid (Ha_3.out.below hbv)
    have Hr_Vb := Lib.hid (Hr_3.out.below hbv)
    have Rn_Vb := Lib.hid (Rn_3.out.below hbv)
    have Rta_Vb := Lib.hid (Rta_3.out.below hbv)
    have BW_Vb := Lib.hid (below_trans BW_3.out hbv BW_3.out.size)
    clear hbv
    have HNE := Lib.hid (show w2.heap.size ≠ w3.heap.size from by have h1 := Rta_3.out.1; omega)
    by_cases hA1 : (MB.length : Int) ≤ (k : Int)
    · go_wp2_with fail
      go_ret
      exact ⟨rfl, BW_Vb.out⟩
    by_cases hA2 : (RB.length : Int) ≤ (k : Int)
    · go_wp2_with fail
      go_ret
      exact ⟨rfl, BW_Vb.out⟩
    have hka : k < MB.length := by omega
    have hkb : k < RB.length := by omega
    have hkai : (k : Int) < (MB.length : Int) := by omega
    have hkbi : (k : Int) < (RB.length : Int) := by omega
    have hy8 : y < 256 := by omega
    have xa := xor_byte MB[k] y hy8
    have xb := xor_byte RB[k] y hy8
    have hxa : bits BinOp.xor IntKind.u8 ((MB[k]).toNat : Int) (y : Int) = ((UInt8.ofNat ((MB[k]).toNat ^^^ y)).toNat : Int) := by
      rw [xa.1]; exact u8_xor_nat _ _ (MB[k]).toNat_lt hy8
    have hxb : bits BinOp.xor IntKind.u8 ((RB[k]).toNat : Int) (y : Int) = ((UInt8.ofNat ((RB[k]).toNat ^^^ y)).toNat : Int) := by
      rw [xb.1]; exact u8_xor_nat _ _ (RB[k]).toNat_lt hy8
    have sa := HPa.out k _ hka (fun he => by have := xa.2.1 he; omega)
    have sb := HPb.out k _ hkb (fun he => by have := xb.2.1 he; omega)
    have hca := (Rta_Vb.out.at k hka).1
    have hfa := (Rta_Vb.out.at k hka).2
    have hcb := ((HTb.out.far w2.heap.size k (.int .u8 ((UInt8.ofNat ((MB[k]).toNat ^^^ y)).toNat : Int)) HNE.out.symm).at k hkb).1
    have hfb := ((HTb.out.far w2.heap.size k (.int .u8 ((UInt8.ofNat ((MB[k]).toNat ^^^ y)).toNat : Int)) HNE.out.symm).at k hkb).2
    have HTa2 := Lib.hid ((Rta_Vb.out.set k (UInt8.ofNat ((MB[k]).toNat ^^^ y)) hka).far w3.heap.size k (.int .u8 ((UInt8.ofNat ((RB[k]).toNat ^^^ y)).toNat : Int)) HNE.out)
    have HTb2 := Lib.hid ((HTb.out.far w2.heap.size k (.int .u8 ((UInt8.ofNat ((MB[k]).toNat ^^^ y)).toNat : Int)) HNE.out.symm).set k (UInt8.ofNat ((RB[k]).toNat ^^^ y)) hkb)
    generalize UInt8.ofNat ((MB[k]).toNat ^^^ y) = xa' at *
    generalize UInt8.ofNat ((RB[k]).toNat ^^^ y) = xb' at *
    have hbk := HTa2.out.back (P := Try.prog) 56 9 5 MB.length capa (by rw [List.length_set]) Try.underlying56 Try.underlying5 Try.underlying9
    have hla : (MB.set k xa').length ≤ 1000000 := by rw [List.length_set]; exact lm
    have hlb : (RB.set k xb').length ≤ 10000000 := by rw [List.length_set]; exact lr
    have HBS := Lib.hid ((BW_Vb.out.setCell (p := ⟨w2.heap.size, k, none⟩) (by have := BW_2.out.size; simp; omega) (.int .u8 (xa'.toNat : Int))).setCell (p := ⟨w3.heap.size, k, none⟩) (by have := BW_3.out.size; have := Rta_Vb.out.1; simp; omega) (.int .u8 (xb'.toNat : Int)))
    have HTM := Lib.hid (fun W => wire_TakeMsg (MB.set k xa') W (by omega))
    have HTR := Lib.hid (fun W => wire_TakeRsp (RB.set k xb') W (by omega))
    rw [sa] at HTM
    rw [sb] at HTR
    unfold RetRsp at HTR
    simp only [msgV, msgCells, rspCells, msg0, rsp0, call0, List.length_nil, List.map_nil] at HTM HTR
    have HRL := Lib.hid (show (RB.set k xb').length = RB.length from List.length_set)
    generalize MB.set k xa' = MB' at *
    generalize RB.set k xb' = RB' at *
    generalize (MB[k]).toNat = na at *
    generalize (RB[k]).toNat = nb at *
    clear xa xb sa sb
    go_wp2_with fail
    refine (HTM.out _).mono ?_
    rintro e w4 ⟨rfl, hb⟩
    have Rtb_4 := Lib.hid (HTb2.out.below hb)
    have BW_4 := Lib.hid (below_trans HBS.out hb HBS.out.size)
    clear hb 
    have hbk2 := (Rtb_4.out.below ((Below.refl _ _).alloc (Nat.le_refl _) (.cells #[.int .i64 0, .int .i64 0, .int .i64 0, .int .i64 0, .int .i64 0, .int .i64 0, .int .i64 0, .int .i64 0, .int .i64 0, .int .i64 0, .int .i64 0, .string ⟨#[]⟩, .string ⟨#[]⟩, .string ⟨#[]⟩] 25))).back (P := Try.prog) 56 9 5 RB.length capb (by have := (show RB'.length = RB.length from HRL.out); omega) Try.underlying56 Try.underlying5 Try.underlying9
    have HB7 := Lib.hid (BW_4.out.alloc (by have := BW_4.out.size; omega) (.cells #[.int .i64 0, .int .i64 0, .int .i64 0, .int .i64 0, .int .i64 0, .int .i64 0, .int .i64 0, .int .i64 0, .int .i64 0, .int .i64 0, .int .i64 0, .string ⟨#[]⟩, .string ⟨#[]⟩, .string ⟨#[]⟩] 25))
    clear hbk hca hcb hfa hfb hcv
    go_wp2_with fail
    refine (HTR.out _).mono ?_
    rintro e w5 ⟨D, cd, rfl, ho, hb⟩
    have BW_5 := Lib.hid (below_trans HB7.out hb HB7.out.size)
    clear ho
    clear hb 
    obtain ⟨v6, hW⟩ : ∃ W, W = w5.alloc (.cells #[.int .i64 0, .int .i64 0, .int .i64 0, .int .i64 0, .int .i64 0, .int .i64 0, .int .i64 0, .int .i64 0, .int .i64 0, .string ⟨#[]⟩, .slice D 0 cd] 31) := ⟨_, rfl⟩
    have hbn : Below w5.heap.size w5 v6 := by rw [hW]; exact (Below.refl _ _).alloc (Nat.le_refl _) _
    have Hz := Lib.hid (show TBox v6 w5.heap.size 31 #[.int .i64 0, .int .i64 0, .int .i64 0, .int .i64 0, .int .i64 0, .int .i64 0, .int .i64 0, .int .i64 0, .int .i64 0, .string ⟨#[]⟩, .slice D 0 cd] from by rw [hW]; exact TBox.new _ _ _)
    have HWv6 := Lib.hid hW
    clear hW
    have BW_v6 := Lib.hid (below_trans BW_5.out hbn BW_5.out.size)
    clear hbn
    have lt9 := BW_v6.out.size
    go_wp2_with fail
    rw [← HWv6.out]
    go_ret
    exact ⟨rfl, BW_v6.out⟩
theorem own : ownKnob Try.prog.godebug = none := by kernel_rfl
theorem laidOut : laidOutB Try.prog = true := by kernel_rfl
theorem cellscopyhold_copyholdlaw15_WireOneIn : Try.prog.cellsOf 55 = 27 := by kernel_rfl
theorem cellscopyhold_api_Msg : Try.prog.cellsOf 25 = 14 := by kernel_rfl
theorem cellsint : Try.prog.cellsOf 3 = 1 := by kernel_rfl
theorem cellscopyhold_api_Call : Try.prog.cellsOf 23 = 8 := by kernel_rfl
theorem cellsstring : Try.prog.cellsOf 9 = 1 := by kernel_rfl
theorem cellscopyhold_api_Rsp : Try.prog.cellsOf 31 = 11 := by kernel_rfl
theorem cellscopyhold_api_Reply : Try.prog.cellsOf 29 = 6 := by kernel_rfl
theorem cellscopyhold_api_Errno : Try.prog.cellsOf 26 = 1 := by kernel_rfl
theorem cells__string : Try.prog.cellsOf 27 = 1 := by kernel_rfl
theorem cellsuint8 : Try.prog.cellsOf 5 = 1 := by kernel_rfl

set_option maxRecDepth 100000 in
set_option maxHeartbeats 1000000 in
theorem lifted (os : Os) (started : os.Started) (H : Type) (enc : TypeId × Value → H) (F : Stop.Interp) :
    ReturnsInHanded {} Try.checked os 6 .any ((Rows.OpenSpec.upto Rows.wireOneSpec).pre6 enc Try.prog Try.f6 Rows.wireOneUptoRow.domain false) (((Rows.OpenSpec.upto Rows.wireOneSpec).at F).post enc Try.prog Try.f6 false true false false) := by
  refine returnsInHanded_of_cond (C := Try.checked) (s := Rows.OpenSpec.upto Rows.wireOneSpec) (k := Rows.uptoSmall) rfl own started (by kernel_rfl) Try.func6
    (OpenSpec.witness (enc := enc) (C := Try.checked) (s := Rows.OpenSpec.upto Rows.wireOneSpec) (k := Rows.uptoSmall) rfl false ⟨#[], #[.agg #[.int .i64 0, .int .i64 0, .int .i64 0, .int .i64 0, .int .i64 0, .int .i64 0, .int .i64 0, .int .i64 0, .int .i64 0, .int .i64 0, .int .i64 0, .string ByteArray.empty, .string ByteArray.empty, .string ByteArray.empty, .int .i64 0, .int .i64 0, .int .i64 0, .int .i64 0, .int .i64 0, .int .i64 0, .int .i64 0, .int .i64 0, .int .i64 0, .string ByteArray.empty, .slice none 0 0, .int .i64 0, .int .u8 0]], []⟩ 8 (by kernel_rfl) (by kernel_rfl) (by kernel_rfl)
      (x := ([.agg [.agg [.lit (.int .i64 0), .lit (.int .i64 0), .lit (.int .i64 0), .lit (.int .i64 0), .lit (.int .i64 0), .lit (.int .i64 0), .agg [.lit (.int .i64 0), .lit (.int .i64 0), .lit (.int .i64 0), .lit (.int .i64 0), .lit (.int .i64 0), .lit (.string []), .lit (.string []), .lit (.string [])]], .agg [.lit (.int .i64 0), .lit (.int .i64 0), .lit (.int .i64 0), .lit (.int .i64 0), .lit (.int .i64 0), .agg [.lit (.int .i64 0), .lit (.int .i64 0), .lit (.int .i64 0), .lit (.int .i64 0), .lit (.string []), .nil]], .lit (.int .i64 0), .lit (.int .u8 0)]], [], [])) (by kernel_rfl) rfl (by kernel_rfl)) ?_
  intro W base args ds gs before hval0 hW hcnd hk _
  have hval : ∀ (j : Nat) t v, Try.f6.params[j]? = some t → args[j]? = some v → Value.okWide Try.prog W .any base t v := hval0
  have hW' := hW
  have hlt := hW.lt
  obtain ⟨p, q, hA0, hV, rfl, hfz, hnd⟩ := hW
  have hA : DataW.TrodAll enc Try.prog W 0 (fun _ => true) true Try.f6.params.toList args.toList ds p := hA0
  rw [Try.params6] at hA hval
  obtain ⟨v0, vs0, d0, ds0, p0, q0, hargs, rfl, rfl, h0, r0⟩ := trodAll_cons hA
  obtain ⟨rfl, rfl, rfl⟩ := trodAll_nil r0
  obtain rfl : args = #[v0] := by cases args; simp_all
  obtain ⟨rfl, rfl⟩ := trodVars_none hV
  obtain ⟨cs0, rfl, hcz0⟩ := okWide_struct Try.underlying55 (hval 0 55 v0 rfl rfl)
  rw [cellscopyhold_copyholdlaw15_WireOneIn] at hcz0
  obtain ⟨c0_0_0, c0_0_1, c0_0_2, c0_0_3, c0_0_4, c0_0_5, c0_0_6_0, c0_0_6_1, c0_0_6_2, c0_0_6_3, c0_0_6_4, c0_0_6_5, c0_0_6_6, c0_0_6_7, c0_1_0, c0_1_1, c0_1_2, c0_1_3, c0_1_4, c0_1_5_0, c0_1_5_1, c0_1_5_2, c0_1_5_3, c0_1_5_4, c0_1_5_5, c0_2, c0_3, rfl⟩ := array27_of hcz0
  obtain ⟨fuel0, hf0⟩ := h0
  obtain ⟨xs0, m0, _, hx0, _, hlen0, hfl0⟩ := DataW.trod_struct Try.underlying55 hf0
  obtain ⟨y0_0, y0_1, y0_2, y0_3, rfl⟩ := list4 hlen0
  have g0_0 : DataW.trod enc Try.prog W 0 (fun _ => true) true m0 25 [c0_0_0, c0_0_1, c0_0_2, c0_0_3, c0_0_4, c0_0_5, c0_0_6_0, c0_0_6_1, c0_0_6_2, c0_0_6_3, c0_0_6_4, c0_0_6_5, c0_0_6_6, c0_0_6_7] = some y0_0 := by have h := hfl0 0 _ rfl; simpa [Value.cells, cellscopyhold_api_Msg] using h
  have g0_1 : DataW.trod enc Try.prog W 0 (fun _ => true) true m0 31 [c0_1_0, c0_1_1, c0_1_2, c0_1_3, c0_1_4, c0_1_5_0, c0_1_5_1, c0_1_5_2, c0_1_5_3, c0_1_5_4, c0_1_5_5] = some y0_1 := by have h := hfl0 1 _ rfl; simpa [Value.cells, cellscopyhold_api_Rsp] using h
  have g0_2 : DataW.trod enc Try.prog W 0 (fun _ => true) true m0 3 [c0_2] = some y0_2 := by have h := hfl0 2 _ rfl; simpa [Value.cells, cellsint] using h
  have g0_3 : DataW.trod enc Try.prog W 0 (fun _ => true) true m0 5 [c0_3] = some y0_3 := by have h := hfl0 3 _ rfl; simpa [Value.cells, cellsuint8] using h
  simp only [Prod.mk.injEq] at hx0
  obtain ⟨rfl, hp0⟩ := hx0
  subst hp0
  have hk0 := bulk_le hk (d := .agg [y0_0.1, y0_1.1, y0_2.1, y0_3.1]) (by simp)
  obtain ⟨xs0_0, m0_0, _, hx0_0, _, hlen0_0, hfl0_0⟩ := DataW.trod_struct Try.underlying25 g0_0
  obtain ⟨y0_0_0, y0_0_1, y0_0_2, y0_0_3, y0_0_4, y0_0_5, y0_0_6, rfl⟩ := list7 hlen0_0
  have g0_0_0 : DataW.trod enc Try.prog W 0 (fun _ => true) true m0_0 3 [c0_0_0] = some y0_0_0 := by have h := hfl0_0 0 _ rfl; simpa [Value.cells, cellsint] using h
  have g0_0_1 : DataW.trod enc Try.prog W 0 (fun _ => true) true m0_0 3 [c0_0_1] = some y0_0_1 := by have h := hfl0_0 1 _ rfl; simpa [Value.cells, cellsint] using h
  have g0_0_2 : DataW.trod enc Try.prog W 0 (fun _ => true) true m0_0 3 [c0_0_2] = some y0_0_2 := by have h := hfl0_0 2 _ rfl; simpa [Value.cells, cellsint] using h
  have g0_0_3 : DataW.trod enc Try.prog W 0 (fun _ => true) true m0_0 3 [c0_0_3] = some y0_0_3 := by have h := hfl0_0 3 _ rfl; simpa [Value.cells, cellsint] using h
  have g0_0_4 : DataW.trod enc Try.prog W 0 (fun _ => true) true m0_0 3 [c0_0_4] = some y0_0_4 := by have h := hfl0_0 4 _ rfl; simpa [Value.cells, cellsint] using h
  have g0_0_5 : DataW.trod enc Try.prog W 0 (fun _ => true) true m0_0 3 [c0_0_5] = some y0_0_5 := by have h := hfl0_0 5 _ rfl; simpa [Value.cells, cellsint] using h
  have g0_0_6 : DataW.trod enc Try.prog W 0 (fun _ => true) true m0_0 23 [c0_0_6_0, c0_0_6_1, c0_0_6_2, c0_0_6_3, c0_0_6_4, c0_0_6_5, c0_0_6_6, c0_0_6_7] = some y0_0_6 := by have h := hfl0_0 6 _ rfl; simpa [Value.cells, cellscopyhold_api_Call] using h
  subst hx0_0
  have hk0_0 := bulk_agg hk0 (d := .agg [y0_0_0.1, y0_0_1.1, y0_0_2.1, y0_0_3.1, y0_0_4.1, y0_0_5.1, y0_0_6.1]) (by simp)
  obtain ⟨a0_0_0, ev0_0_0, ey0_0_0, w0_0_0⟩ := DataW.trod_int Try.underlying3 g0_0_0
  obtain rfl : c0_0_0 = _ := by simpa using ev0_0_0
  subst ey0_0_0
  obtain ⟨a0_0_1, ev0_0_1, ey0_0_1, w0_0_1⟩ := DataW.trod_int Try.underlying3 g0_0_1
  obtain rfl : c0_0_1 = _ := by simpa using ev0_0_1
  subst ey0_0_1
  obtain ⟨a0_0_2, ev0_0_2, ey0_0_2, w0_0_2⟩ := DataW.trod_int Try.underlying3 g0_0_2
  obtain rfl : c0_0_2 = _ := by simpa using ev0_0_2
  subst ey0_0_2
  obtain ⟨a0_0_3, ev0_0_3, ey0_0_3, w0_0_3⟩ := DataW.trod_int Try.underlying3 g0_0_3
  obtain rfl : c0_0_3 = _ := by simpa using ev0_0_3
  subst ey0_0_3
  obtain ⟨a0_0_4, ev0_0_4, ey0_0_4, w0_0_4⟩ := DataW.trod_int Try.underlying3 g0_0_4
  obtain rfl : c0_0_4 = _ := by simpa using ev0_0_4
  subst ey0_0_4
  obtain ⟨a0_0_5, ev0_0_5, ey0_0_5, w0_0_5⟩ := DataW.trod_int Try.underlying3 g0_0_5
  obtain rfl : c0_0_5 = _ := by simpa using ev0_0_5
  subst ey0_0_5
  obtain ⟨xs0_0_6, m0_0_6, _, hx0_0_6, _, hlen0_0_6, hfl0_0_6⟩ := DataW.trod_struct Try.underlying23 g0_0_6
  obtain ⟨y0_0_6_0, y0_0_6_1, y0_0_6_2, y0_0_6_3, y0_0_6_4, y0_0_6_5, y0_0_6_6, y0_0_6_7, rfl⟩ := list8 hlen0_0_6
  have g0_0_6_0 : DataW.trod enc Try.prog W 0 (fun _ => true) true m0_0_6 3 [c0_0_6_0] = some y0_0_6_0 := by have h := hfl0_0_6 0 _ rfl; simpa [Value.cells, cellsint] using h
  have g0_0_6_1 : DataW.trod enc Try.prog W 0 (fun _ => true) true m0_0_6 3 [c0_0_6_1] = some y0_0_6_1 := by have h := hfl0_0_6 1 _ rfl; simpa [Value.cells, cellsint] using h
  have g0_0_6_2 : DataW.trod enc Try.prog W 0 (fun _ => true) true m0_0_6 3 [c0_0_6_2] = some y0_0_6_2 := by have h := hfl0_0_6 2 _ rfl; simpa [Value.cells, cellsint] using h
  have g0_0_6_3 : DataW.trod enc Try.prog W 0 (fun _ => true) true m0_0_6 3 [c0_0_6_3] = some y0_0_6_3 := by have h := hfl0_0_6 3 _ rfl; simpa [Value.cells, cellsint] using h
  have g0_0_6_4 : DataW.trod enc Try.prog W 0 (fun _ => true) true m0_0_6 3 [c0_0_6_4] = some y0_0_6_4 := by have h := hfl0_0_6 4 _ rfl; simpa [Value.cells, cellsint] using h
  have g0_0_6_5 : DataW.trod enc Try.prog W 0 (fun _ => true) true m0_0_6 9 [c0_0_6_5] = some y0_0_6_5 := by have h := hfl0_0_6 5 _ rfl; simpa [Value.cells, cellsstring] using h
  have g0_0_6_6 : DataW.trod enc Try.prog W 0 (fun _ => true) true m0_0_6 9 [c0_0_6_6] = some y0_0_6_6 := by have h := hfl0_0_6 6 _ rfl; simpa [Value.cells, cellsstring] using h
  have g0_0_6_7 : DataW.trod enc Try.prog W 0 (fun _ => true) true m0_0_6 9 [c0_0_6_7] = some y0_0_6_7 := by have h := hfl0_0_6 7 _ rfl; simpa [Value.cells, cellsstring] using h
  subst hx0_0_6
  have hk0_0_6 := bulk_agg hk0_0 (d := .agg [y0_0_6_0.1, y0_0_6_1.1, y0_0_6_2.1, y0_0_6_3.1, y0_0_6_4.1, y0_0_6_5.1, y0_0_6_6.1, y0_0_6_7.1]) (by simp)
  obtain ⟨a0_0_6_0, ev0_0_6_0, ey0_0_6_0, w0_0_6_0⟩ := DataW.trod_int Try.underlying3 g0_0_6_0
  obtain rfl : c0_0_6_0 = _ := by simpa using ev0_0_6_0
  subst ey0_0_6_0
  obtain ⟨a0_0_6_1, ev0_0_6_1, ey0_0_6_1, w0_0_6_1⟩ := DataW.trod_int Try.underlying3 g0_0_6_1
  obtain rfl : c0_0_6_1 = _ := by simpa using ev0_0_6_1
  subst ey0_0_6_1
  obtain ⟨a0_0_6_2, ev0_0_6_2, ey0_0_6_2, w0_0_6_2⟩ := DataW.trod_int Try.underlying3 g0_0_6_2
  obtain rfl : c0_0_6_2 = _ := by simpa using ev0_0_6_2
  subst ey0_0_6_2
  obtain ⟨a0_0_6_3, ev0_0_6_3, ey0_0_6_3, w0_0_6_3⟩ := DataW.trod_int Try.underlying3 g0_0_6_3
  obtain rfl : c0_0_6_3 = _ := by simpa using ev0_0_6_3
  subst ey0_0_6_3
  obtain ⟨a0_0_6_4, ev0_0_6_4, ey0_0_6_4, w0_0_6_4⟩ := DataW.trod_int Try.underlying3 g0_0_6_4
  obtain rfl : c0_0_6_4 = _ := by simpa using ev0_0_6_4
  subst ey0_0_6_4
  obtain ⟨s0_0_6_5, ev0_0_6_5, ey0_0_6_5, w0_0_6_5⟩ := DataW.trod_string Try.underlying9 g0_0_6_5
  obtain rfl : c0_0_6_5 = _ := by simpa using ev0_0_6_5
  subst ey0_0_6_5
  have z0_0_6_5 : s0_0_6_5.data.toList.length ≤ 1048576 := bulk_string (bulk_agg hk0_0_6 (d := .lit (.string s0_0_6_5.data.toList)) (by simp))
  obtain ⟨a0_0_6_5, rfl⟩ : ∃ l : List UInt8, s0_0_6_5 = ⟨l.toArray⟩ := ⟨s0_0_6_5.data.toList, rfl⟩
  obtain ⟨s0_0_6_6, ev0_0_6_6, ey0_0_6_6, w0_0_6_6⟩ := DataW.trod_string Try.underlying9 g0_0_6_6
  obtain rfl : c0_0_6_6 = _ := by simpa using ev0_0_6_6
  subst ey0_0_6_6
  have z0_0_6_6 : s0_0_6_6.data.toList.length ≤ 1048576 := bulk_string (bulk_agg hk0_0_6 (d := .lit (.string s0_0_6_6.data.toList)) (by simp))
  obtain ⟨a0_0_6_6, rfl⟩ : ∃ l : List UInt8, s0_0_6_6 = ⟨l.toArray⟩ := ⟨s0_0_6_6.data.toList, rfl⟩
  obtain ⟨s0_0_6_7, ev0_0_6_7, ey0_0_6_7, w0_0_6_7⟩ := DataW.trod_string Try.underlying9 g0_0_6_7
  obtain rfl : c0_0_6_7 = _ := by simpa using ev0_0_6_7
  subst ey0_0_6_7
  have z0_0_6_7 : s0_0_6_7.data.toList.length ≤ 1048576 := bulk_string (bulk_agg hk0_0_6 (d := .lit (.string s0_0_6_7.data.toList)) (by simp))
  obtain ⟨a0_0_6_7, rfl⟩ : ∃ l : List UInt8, s0_0_6_7 = ⟨l.toArray⟩ := ⟨s0_0_6_7.data.toList, rfl⟩
  obtain ⟨xs0_1, m0_1, _, hx0_1, _, hlen0_1, hfl0_1⟩ := DataW.trod_struct Try.underlying31 g0_1
  obtain ⟨y0_1_0, y0_1_1, y0_1_2, y0_1_3, y0_1_4, y0_1_5, rfl⟩ := list6 hlen0_1
  have g0_1_0 : DataW.trod enc Try.prog W 0 (fun _ => true) true m0_1 3 [c0_1_0] = some y0_1_0 := by have h := hfl0_1 0 _ rfl; simpa [Value.cells, cellsint] using h
  have g0_1_1 : DataW.trod enc Try.prog W 0 (fun _ => true) true m0_1 3 [c0_1_1] = some y0_1_1 := by have h := hfl0_1 1 _ rfl; simpa [Value.cells, cellsint] using h
  have g0_1_2 : DataW.trod enc Try.prog W 0 (fun _ => true) true m0_1 3 [c0_1_2] = some y0_1_2 := by have h := hfl0_1 2 _ rfl; simpa [Value.cells, cellsint] using h
  have g0_1_3 : DataW.trod enc Try.prog W 0 (fun _ => true) true m0_1 3 [c0_1_3] = some y0_1_3 := by have h := hfl0_1 3 _ rfl; simpa [Value.cells, cellsint] using h
  have g0_1_4 : DataW.trod enc Try.prog W 0 (fun _ => true) true m0_1 3 [c0_1_4] = some y0_1_4 := by have h := hfl0_1 4 _ rfl; simpa [Value.cells, cellsint] using h
  have g0_1_5 : DataW.trod enc Try.prog W 0 (fun _ => true) true m0_1 29 [c0_1_5_0, c0_1_5_1, c0_1_5_2, c0_1_5_3, c0_1_5_4, c0_1_5_5] = some y0_1_5 := by have h := hfl0_1 5 _ rfl; simpa [Value.cells, cellscopyhold_api_Reply] using h
  subst hx0_1
  have hk0_1 := bulk_agg hk0 (d := .agg [y0_1_0.1, y0_1_1.1, y0_1_2.1, y0_1_3.1, y0_1_4.1, y0_1_5.1]) (by simp)
  obtain ⟨a0_1_0, ev0_1_0, ey0_1_0, w0_1_0⟩ := DataW.trod_int Try.underlying3 g0_1_0
  obtain rfl : c0_1_0 = _ := by simpa using ev0_1_0
  subst ey0_1_0
  obtain ⟨a0_1_1, ev0_1_1, ey0_1_1, w0_1_1⟩ := DataW.trod_int Try.underlying3 g0_1_1
  obtain rfl : c0_1_1 = _ := by simpa using ev0_1_1
  subst ey0_1_1
  obtain ⟨a0_1_2, ev0_1_2, ey0_1_2, w0_1_2⟩ := DataW.trod_int Try.underlying3 g0_1_2
  obtain rfl : c0_1_2 = _ := by simpa using ev0_1_2
  subst ey0_1_2
  obtain ⟨a0_1_3, ev0_1_3, ey0_1_3, w0_1_3⟩ := DataW.trod_int Try.underlying3 g0_1_3
  obtain rfl : c0_1_3 = _ := by simpa using ev0_1_3
  subst ey0_1_3
  obtain ⟨a0_1_4, ev0_1_4, ey0_1_4, w0_1_4⟩ := DataW.trod_int Try.underlying3 g0_1_4
  obtain rfl : c0_1_4 = _ := by simpa using ev0_1_4
  subst ey0_1_4
  obtain ⟨xs0_1_5, m0_1_5, _, hx0_1_5, _, hlen0_1_5, hfl0_1_5⟩ := DataW.trod_struct Try.underlying29 g0_1_5
  obtain ⟨y0_1_5_0, y0_1_5_1, y0_1_5_2, y0_1_5_3, y0_1_5_4, y0_1_5_5, rfl⟩ := list6 hlen0_1_5
  have g0_1_5_0 : DataW.trod enc Try.prog W 0 (fun _ => true) true m0_1_5 26 [c0_1_5_0] = some y0_1_5_0 := by have h := hfl0_1_5 0 _ rfl; simpa [Value.cells, cellscopyhold_api_Errno] using h
  have g0_1_5_1 : DataW.trod enc Try.prog W 0 (fun _ => true) true m0_1_5 3 [c0_1_5_1] = some y0_1_5_1 := by have h := hfl0_1_5 1 _ rfl; simpa [Value.cells, cellsint] using h
  have g0_1_5_2 : DataW.trod enc Try.prog W 0 (fun _ => true) true m0_1_5 3 [c0_1_5_2] = some y0_1_5_2 := by have h := hfl0_1_5 2 _ rfl; simpa [Value.cells, cellsint] using h
  have g0_1_5_3 : DataW.trod enc Try.prog W 0 (fun _ => true) true m0_1_5 3 [c0_1_5_3] = some y0_1_5_3 := by have h := hfl0_1_5 3 _ rfl; simpa [Value.cells, cellsint] using h
  have g0_1_5_4 : DataW.trod enc Try.prog W 0 (fun _ => true) true m0_1_5 9 [c0_1_5_4] = some y0_1_5_4 := by have h := hfl0_1_5 4 _ rfl; simpa [Value.cells, cellsstring] using h
  have g0_1_5_5 : DataW.trod enc Try.prog W 0 (fun _ => true) true m0_1_5 27 [c0_1_5_5] = some y0_1_5_5 := by have h := hfl0_1_5 5 _ rfl; simpa [Value.cells, cells__string] using h
  subst hx0_1_5
  have hk0_1_5 := bulk_agg hk0_1 (d := .agg [y0_1_5_0.1, y0_1_5_1.1, y0_1_5_2.1, y0_1_5_3.1, y0_1_5_4.1, y0_1_5_5.1]) (by simp)
  obtain ⟨a0_1_5_0, ev0_1_5_0, ey0_1_5_0, w0_1_5_0⟩ := DataW.trod_int Try.underlying26 g0_1_5_0
  obtain rfl : c0_1_5_0 = _ := by simpa using ev0_1_5_0
  subst ey0_1_5_0
  obtain ⟨a0_1_5_1, ev0_1_5_1, ey0_1_5_1, w0_1_5_1⟩ := DataW.trod_int Try.underlying3 g0_1_5_1
  obtain rfl : c0_1_5_1 = _ := by simpa using ev0_1_5_1
  subst ey0_1_5_1
  obtain ⟨a0_1_5_2, ev0_1_5_2, ey0_1_5_2, w0_1_5_2⟩ := DataW.trod_int Try.underlying3 g0_1_5_2
  obtain rfl : c0_1_5_2 = _ := by simpa using ev0_1_5_2
  subst ey0_1_5_2
  obtain ⟨a0_1_5_3, ev0_1_5_3, ey0_1_5_3, w0_1_5_3⟩ := DataW.trod_int Try.underlying3 g0_1_5_3
  obtain rfl : c0_1_5_3 = _ := by simpa using ev0_1_5_3
  subst ey0_1_5_3
  obtain ⟨s0_1_5_4, ev0_1_5_4, ey0_1_5_4, w0_1_5_4⟩ := DataW.trod_string Try.underlying9 g0_1_5_4
  obtain rfl : c0_1_5_4 = _ := by simpa using ev0_1_5_4
  subst ey0_1_5_4
  have z0_1_5_4 : s0_1_5_4.data.toList.length ≤ 1048576 := bulk_string (bulk_agg hk0_1_5 (d := .lit (.string s0_1_5_4.data.toList)) (by simp))
  obtain ⟨a0_1_5_4, rfl⟩ : ∃ l : List UInt8, s0_1_5_4 = ⟨l.toArray⟩ := ⟨s0_1_5_4.data.toList, rfl⟩
  obtain ⟨u0_1_5_5, a0_1_5_5, ev0_1_5_5, w0_1_5_5, e0_1_5_5⟩ := open_texts_at Try.underlying27 Try.underlying9 (by kernel_rfl) g0_1_5_5 (fun x hx => hlt x (by simp [hx]))
  obtain rfl : c0_1_5_5 = _ := by simpa using ev0_1_5_5
  have z0_1_5_5 := bulk_texts e0_1_5_5 (bulk_agg hk0_1_5 (by simp))
  obtain ⟨a0_2, ev0_2, ey0_2, w0_2⟩ := DataW.trod_int Try.underlying3 g0_2
  obtain rfl : c0_2 = _ := by simpa using ev0_2
  subst ey0_2
  obtain ⟨a0_3, ev0_3, ey0_3, w0_3⟩ := DataW.trod_int Try.underlying5 g0_3
  obtain rfl : c0_3 = _ := by simpa using ev0_3
  subst ey0_3
  refine (walk W a0_0_0 w0_0_0 a0_0_1 w0_0_1 a0_0_2 w0_0_2 a0_0_3 w0_0_3 a0_0_4 w0_0_4 a0_0_5 w0_0_5 a0_0_6_0 w0_0_6_0 a0_0_6_1 w0_0_6_1 a0_0_6_2 w0_0_6_2 a0_0_6_3 w0_0_6_3 a0_0_6_4 w0_0_6_4 a0_0_6_5 z0_0_6_5 a0_0_6_6 z0_0_6_6 a0_0_6_7 z0_0_6_7 a0_1_0 w0_1_0 a0_1_1 w0_1_1 a0_1_2 w0_1_2 a0_1_3 w0_1_3 a0_1_4 w0_1_4 a0_1_5_0 w0_1_5_0 a0_1_5_1 w0_1_5_1 a0_1_5_2 w0_1_5_2 a0_1_5_3 w0_1_5_3 a0_1_5_4 z0_1_5_4 c0_1_5_5 a0_1_5_5 w0_1_5_5 z0_1_5_5 a0_2 w0_2 a0_3 w0_3).mono fun e W' ⟨he, hg⟩ => ?_
  subst he
  exact ⟨_, rfl, Copyhold.law_post laidOut (by kernel_rfl) (by kernel_rfl) Try.underlying4 rfl rfl rfl rfl hW' hg⟩

theorem over : Rows.wireOneUptoRow.holds Try.pinned (Rows.OpenSpec.upto Rows.wireOneSpec) :=
  OpenClaim.holds_of_cond 6 Try.f6 rfl rfl rfl rfl rfl rfl rfl ⟨rfl, rfl, rfl, rfl, rfl⟩ rfl rfl rfl rfl rfl (by kernel_rfl) Try.func6 (by kernel_rfl)
    (of_decide_eq_true (by kernel_rfl)) (by unfold Func.isWrapper; first | (rw [if_pos (by decide +kernel)]; kernel_rfl) | (rw [if_neg (by decide +kernel)]; exact ⟨rfl, rfl⟩))
    (fun os started H enc _ F => lifted os started H enc F)

theorem proved : Rows.WireOneUptoSaid :=
  over
end Go.Proofs.Ytpojhcpkmpbflaa.wireOne
