/- Proved: copyholdlaw15.WireLays returns true for every message and two answers, and leaves them as they were: the bytes of a call, a message and an answer are as the document says. No condition beyond the form's own reach, up to 1048576 bytes in the texts and texts in the rows together. -/
import Derived.Test.YtpojhcpkmpbflaaWireLawK
import Derived.Test.YtpojhcpkmpbflaaWireTk5
import Derived.Test.YtpojhcpkmpbflaaRef15S
import Derived.Test.YtpojhcpkmpbflaaRefLong
import Derived.Test.YtpojhcpkmpbflaaLaw50
import Derived.Test.YtpojhcpkmpbflaaBulk
import Derived.Test.YtpojhcpkmpbflaaWireSame
import Derived.Test.YtpojhcpkmpbflaaRef15
namespace Go.Proofs.Ytpojhcpkmpbflaa.wireLays
open Go.ChangeShapes Go.WideShapes Go.ChangeAt Go.RowKit Copyhold
open Go.ChangeMaps (open_string shut_string)
set_option linter.unusedVariables false
set_option linter.unusedSimpArgs false

theorem longK_small (ls : List (List UInt8)) (h : (ls.map List.length).sum + ls.length ≤ 1048576) : longK ls ls.length = ((ls.map List.length).sum + ls.length : Nat) := by
  have key : ∀ k, k ≤ ls.length → longK ls k = (((ls.take k).map List.length).sum + ls.length : Nat) := by
    intro k
    induction k with
    | zero => intro _; simp [longK]
    | succ k ih =>
      intro hk
      have hlt : k < ls.length := by omega
      have hst : ((ls.take (k + 1)).map List.length).sum = ((ls.take k).map List.length).sum + ls[k].length := by
        rw [List.take_succ_eq_append_getElem hlt, List.map_append, List.sum_append]; simp
      have hle : ((ls.take (k + 1)).map List.length).sum ≤ (ls.map List.length).sum := by
        have := List.take_append_drop (k + 1) ls
        have e : (ls.map List.length).sum = ((ls.take (k + 1)).map List.length).sum + ((ls.drop (k + 1)).map List.length).sum := by
          rw [← List.sum_append, ← List.map_append, this]
        omega
      rw [longK, ih (by omega), hst]
      have hg : (ls.getD k []).length = ls[k].length := by simp [List.getD, hlt]
      rw [hg]
      unfold wrap64
      omega
  have := key ls.length (Nat.le_refl _)
  rw [List.take_length] at this
  exact this

set_option maxRecDepth 100000 in
set_option maxHeartbeats 32000000 in
theorem walk (w : World) (m1 : Int) (wm1 : (Lit.int .i64 m1).wf = true) (m2 : Int) (wm2 : (Lit.int .i64 m2).wf = true) (m3 : Int) (wm3 : (Lit.int .i64 m3).wf = true) (m4 : Int) (wm4 : (Lit.int .i64 m4).wf = true) (m5 : Int) (wm5 : (Lit.int .i64 m5).wf = true) (m6 : Int) (wm6 : (Lit.int .i64 m6).wf = true) (k1 : Int) (wk1 : (Lit.int .i64 k1).wf = true) (k2 : Int) (wk2 : (Lit.int .i64 k2).wf = true) (k3 : Int) (wk3 : (Lit.int .i64 k3).wf = true) (k4 : Int) (wk4 : (Lit.int .i64 k4).wf = true) (k5 : Int) (wk5 : (Lit.int .i64 k5).wf = true) (t1 : List UInt8) (zt1 : t1.length ≤ 1048576) (t2 : List UInt8) (zt2 : t2.length ≤ 1048576) (t3 : List UInt8) (zt3 : t3.length ≤ 1048576) (r1 : Int) (wr1 : (Lit.int .i64 r1).wf = true) (r2 : Int) (wr2 : (Lit.int .i64 r2).wf = true) (r3 : Int) (wr3 : (Lit.int .i64 r3).wf = true) (r4 : Int) (wr4 : (Lit.int .i64 r4).wf = true) (r5 : Int) (wr5 : (Lit.int .i64 r5).wf = true) (r6 : Int) (wr6 : (Lit.int .i64 r6).wf = true) (r7 : Int) (wr7 : (Lit.int .i64 r7).wf = true) (r8 : Int) (wr8 : (Lit.int .i64 r8).wf = true) (r9 : Int) (wr9 : (Lit.int .i64 r9).wf = true) (tx : List UInt8) (ztx : tx.length ≤ 1048576) (nv : Value) (ls : List (List UInt8)) (hrow : Row w nv (ls.map strV)) (hls : (ls.map List.length).sum + ls.length ≤ 1048576) (q1 : Int) (wq1 : (Lit.int .i64 q1).wf = true) (q2 : Int) (wq2 : (Lit.int .i64 q2).wf = true) (q3 : Int) (wq3 : (Lit.int .i64 q3).wf = true) (q4 : Int) (wq4 : (Lit.int .i64 q4).wf = true) (q5 : Int) (wq5 : (Lit.int .i64 q5).wf = true) (q6 : Int) (wq6 : (Lit.int .i64 q6).wf = true) (q7 : Int) (wq7 : (Lit.int .i64 q7).wf = true) (q8 : Int) (wq8 : (Lit.int .i64 q8).wf = true) (q9 : Int) (wq9 : (Lit.int .i64 q9).wf = true) (ux : List UInt8) (zux : ux.length ≤ 1048576) (nw : Value) (ks : List (List UInt8)) (krow : Row w nw (ks.map strV)) (hks : (ks.map List.length).sum + ks.length ≤ 1048576) :
    Calls Try.prog 3 #[.agg #[.int .i64 m1, .int .i64 m2, .int .i64 m3, .int .i64 m4, .int .i64 m5, .int .i64 m6, .int .i64 k1, .int .i64 k2, .int .i64 k3, .int .i64 k4, .int .i64 k5, .string ⟨t1.toArray⟩, .string ⟨t2.toArray⟩, .string ⟨t3.toArray⟩], .agg #[.int .i64 r1, .int .i64 r2, .int .i64 r3, .int .i64 r4, .int .i64 r5, .int .i64 r6, .int .i64 r7, .int .i64 r8, .int .i64 r9, .string ⟨tx.toArray⟩, nv], .agg #[.int .i64 q1, .int .i64 q2, .int .i64 q3, .int .i64 q4, .int .i64 q5, .int .i64 q6, .int .i64 q7, .int .i64 q8, .int .i64 q9, .string ⟨ux.toArray⟩, nw]] w fun e w' => e = .returned (.bool true) ∧ Below w.heap.size w w' := by
  obtain ⟨A, cp, rfl⟩ := hrow.shape
  obtain ⟨B, cq, rfl⟩ := krow.shape
  rw [List.length_map] at hrow krow ⊢
  rw [List.length_map]
  have im : I64 m1 ∧ I64 m2 ∧ I64 m3 ∧ I64 m4 ∧ I64 m5 ∧ I64 m6 := ⟨i64_of wm1, i64_of wm2, i64_of wm3, i64_of wm4, i64_of wm5, i64_of wm6⟩
  have ik : I64 k1 ∧ I64 k2 ∧ I64 k3 ∧ I64 k4 ∧ I64 k5 := ⟨i64_of wk1, i64_of wk2, i64_of wk3, i64_of wk4, i64_of wk5⟩
  have ir : I64 r1 ∧ I64 r2 ∧ I64 r3 ∧ I64 r4 ∧ I64 r5 ∧ I64 r6 ∧ I64 r7 ∧ I64 r8 ∧ I64 r9 := ⟨i64_of wr1, i64_of wr2, i64_of wr3, i64_of wr4, i64_of wr5, i64_of wr6, i64_of wr7, i64_of wr8, i64_of wr9⟩
  have HI := Lib.hid (And.intro im ir)
  have hok := fun h => short_ok (c := ⟨k1, k2, k3, k4, k5, t1, t2, t3⟩) h ik
  have HSH := Lib.hid (fun W => law_short ⟨k1, k2, k3, k4, k5, t1, t2, t3⟩ W (by simp only; omega) (by simp only; omega) (by simp only; omega))
  unfold callV at HSH
  simp only at HSH
  have HLG := Lib.hid (fun v W hv => ref_LongAny v ls W hv (by omega))
  have hLs := longK_small ls hls
  rw [hLs] at HLG
  have HKG := Lib.hid (fun v W hv => ref_LongAny v ks W hv (by omega))
  have hKs := longK_small ks hks
  rw [hKs] at HKG
  generalize hLn : (ls.map List.length).sum + ls.length = L at *
  have HLN := Lib.hid hLn
  generalize hKn : (ks.map List.length).sum + ks.length = K at *
  have HKN := Lib.hid hKn
  have HWR := Lib.hid (show IntKind.i64.wrap ((tx.length : Int) + (L : Int)) = (tx.length : Int) + (L : Int) from by simp [IntKind.wrap, IntKind.signed, IntKind.bits]; omega)
  clear im ik ir hLs hLn hKs hKn wm1 wm2 wm3 wm4 wm5 wm6 wk1 wk2 wk3 wk4 wk5 wr1 wq1 wr2 wq2 wr3 wq3 wr4 wq4 wr5 wq5 wr6 wq6 wr7 wq7 wr8 wq8 wr9 wq9
  cases hsa : shortC ⟨k1, k2, k3, k4, k5, t1, t2, t3⟩ with
  | false =>
    have HA := Lib.hid hsa
    clear hok hsa
    obtain ⟨wu1, hu1⟩ : ∃ u, u = w.alloc (.cells #[.int .i64 m1, .int .i64 m2, .int .i64 m3, .int .i64 m4, .int .i64 m5, .int .i64 m6, .int .i64 k1, .int .i64 k2, .int .i64 k3, .int .i64 k4, .int .i64 k5, .string ⟨t1.toArray⟩, .string ⟨t2.toArray⟩, .string ⟨t3.toArray⟩] 25) := ⟨_, rfl⟩
    have su1 : wu1.heap.size = w.heap.size + 1 := by rw [hu1]; simp
    have tu1 : TBox wu1 (w.heap.size) 25 #[.int .i64 m1, .int .i64 m2, .int .i64 m3, .int .i64 m4, .int .i64 m5, .int .i64 m6, .int .i64 k1, .int .i64 k2, .int .i64 k3, .int .i64 k4, .int .i64 k5, .string ⟨t1.toArray⟩, .string ⟨t2.toArray⟩, .string ⟨t3.toArray⟩] := by rw [hu1]; exact TBox.new _ _ _
    have bu1 : Below w.heap.size w wu1 := by rw [hu1]; exact (Below.refl _ _).alloc (Nat.le_refl _) _
    have BU1 := bu1
    obtain ⟨wu2, hu2⟩ : ∃ u, u = wu1.alloc (.cells #[.int .i64 r1, .int .i64 r2, .int .i64 r3, .int .i64 r4, .int .i64 r5, .int .i64 r6, .int .i64 r7, .int .i64 r8, .int .i64 r9, .string ⟨tx.toArray⟩, .slice A ls.length cp] 31) := ⟨_, rfl⟩
    have su2 : wu2.heap.size = w.heap.size + 2 := by rw [hu2]; simp [su1]
    have tu2 : TBox wu2 (w.heap.size + 1) 31 #[.int .i64 r1, .int .i64 r2, .int .i64 r3, .int .i64 r4, .int .i64 r5, .int .i64 r6, .int .i64 r7, .int .i64 r8, .int .i64 r9, .string ⟨tx.toArray⟩, .slice A ls.length cp] := by rw [hu2, ← su1]; exact TBox.new _ _ _
    have bu2 : Below wu1.heap.size wu1 wu2 := by rw [hu2]; exact (Below.refl _ _).alloc (Nat.le_refl _) _
    have BU2 := below_trans BU1 bu2 BU1.size
    obtain ⟨wu3, hu3⟩ : ∃ u, u = wu2.alloc (.cells #[.int .i64 q1, .int .i64 q2, .int .i64 q3, .int .i64 q4, .int .i64 q5, .int .i64 q6, .int .i64 q7, .int .i64 q8, .int .i64 q9, .string ⟨ux.toArray⟩, .slice B ks.length cq] 31) := ⟨_, rfl⟩
    have su3 : wu3.heap.size = w.heap.size + 3 := by rw [hu3]; simp [su2]
    have tu3 : TBox wu3 (w.heap.size + 2) 31 #[.int .i64 q1, .int .i64 q2, .int .i64 q3, .int .i64 q4, .int .i64 q5, .int .i64 q6, .int .i64 q7, .int .i64 q8, .int .i64 q9, .string ⟨ux.toArray⟩, .slice B ks.length cq] := by rw [hu3, ← su2]; exact TBox.new _ _ _
    have bu3 : Below wu2.heap.size wu2 wu3 := by rw [hu3]; exact (Below.refl _ _).alloc (Nat.le_refl _) _
    have BU3 := below_trans BU2 bu3 BU2.size
    have Ha0 := Lib.hid ((tu1.below bu2).below bu3)
    have Hr0 := Lib.hid (tu2.below bu3)
    have Hq0 := Lib.hid tu3
    have BW_0 := Lib.hid BU3
    have HW : Hid (wu3 = (((w.alloc (.cells #[.int .i64 m1, .int .i64 m2, .int .i64 m3, .int .i64 m4, .int .i64 m5, .int .i64 m6, .int .i64 k1, .int .i64 k2, .int .i64 k3, .int .i64 k4, .int .i64 k5, .string ⟨t1.toArray⟩, .string ⟨t2.toArray⟩, .string ⟨t3.toArray⟩] 25)).alloc (.cells #[.int .i64 r1, .int .i64 r2, .int .i64 r3, .int .i64 r4, .int .i64 r5, .int .i64 r6, .int .i64 r7, .int .i64 r8, .int .i64 r9, .string ⟨tx.toArray⟩, .slice A ls.length cp] 31)).alloc (.cells #[.int .i64 q1, .int .i64 q2, .int .i64 q3, .int .i64 q4, .int .i64 q5, .int .i64 q6, .int .i64 q7, .int .i64 q8, .int .i64 q9, .string ⟨ux.toArray⟩, .slice B ks.length cq] 31))) := Lib.hid (by rw [hu3, hu2, hu1])
    have HSZ := Lib.hid su3
    obtain ⟨W0, hW0⟩ : ∃ u, u = wu3 := ⟨_, rfl⟩
    rw [← hW0] at Ha0 Hr0 Hq0 BW_0 HW HSZ
    clear hW0 hu1 su1 tu1 bu1 BU1 hu2 su2 tu2 bu2 BU2 hu3 su3 tu3 bu3 BU3
    have Rn0 := Lib.hid (hrow.below BW_0.out)
    have Rk0 := Lib.hid (krow.below BW_0.out)
    clear hrow krow
    go_enter Try.func3, Try.ntmps3
    go_wp2_with fail
    rw [← HW.out]
    refine (law_shown _).mono ?_
    rintro e w1 ⟨rfl, hb⟩
    have Ha_1 := Lib.hid (Ha0.out.below hb)
    have Hr_1 := Lib.hid (Hr0.out.below hb)
    have Hq_1 := Lib.hid (Hq0.out.below hb)
    have Rn_1 := Lib.hid (Rn0.out.below hb)
    have Rk_1 := Lib.hid (Rk0.out.below hb)
    have BW_1 := Lib.hid (below_trans BW_0.out hb BW_0.out.size)
    clear hb 
    go_wp2_with fail
    refine wp_region_held_drew (S := fun V => Below w1.heap.size w1 V) (by kernel_rfl) (below_dn (Below.refl _ _) 1) (fun hHeld => ?_)
    refine wpAnyH_take (i := 0) (v := ?_) rfl (by kernel_rfl) (by kernel_rfl) (by kernel_rfl) (fun _ _ _ h => h) (Or.inl ⟨by rfl, ?_⟩) (by assumption) ?_
    rotate_left
    · intro X hSw
      go_simp
      try with_reducible rfl
    rotate_left
    try simp only [Act.put, List.setIfInBounds_toArray, List.set_cons_zero, List.set_cons_succ, List.getElem_toArray, List.getElem_cons_zero, List.getElem_cons_succ]
    refine wpAnyH_take (i := 1) (v := ?_) rfl (by kernel_rfl) (by kernel_rfl) (by kernel_rfl) (fun _ _ _ h => h) (Or.inl ⟨by rfl, ?_⟩) (by assumption) ?_
    rotate_left
    · intro X hSw
      have hc0 : X.cell? ⟨w.heap.size, 0, none⟩ = some (.int .i64 m1) := (Ha_1.out.below hSw).cell 0
      have hc1 : X.cell? ⟨w.heap.size, 1, none⟩ = some (.int .i64 m2) := (Ha_1.out.below hSw).cell 1
      have hc2 : X.cell? ⟨w.heap.size, 2, none⟩ = some (.int .i64 m3) := (Ha_1.out.below hSw).cell 2
      have hc3 : X.cell? ⟨w.heap.size, 3, none⟩ = some (.int .i64 m4) := (Ha_1.out.below hSw).cell 3
      have hc4 : X.cell? ⟨w.heap.size, 4, none⟩ = some (.int .i64 m5) := (Ha_1.out.below hSw).cell 4
      have hc5 : X.cell? ⟨w.heap.size, 5, none⟩ = some (.int .i64 m6) := (Ha_1.out.below hSw).cell 5
      have hc6 : X.cell? ⟨w.heap.size, 6, none⟩ = some (.int .i64 k1) := (Ha_1.out.below hSw).cell 6
      have hc7 : X.cell? ⟨w.heap.size, 7, none⟩ = some (.int .i64 k2) := (Ha_1.out.below hSw).cell 7
      have hc8 : X.cell? ⟨w.heap.size, 8, none⟩ = some (.int .i64 k3) := (Ha_1.out.below hSw).cell 8
      have hc9 : X.cell? ⟨w.heap.size, 9, none⟩ = some (.int .i64 k4) := (Ha_1.out.below hSw).cell 9
      have hc10 : X.cell? ⟨w.heap.size, 10, none⟩ = some (.int .i64 k5) := (Ha_1.out.below hSw).cell 10
      have hc11 : X.cell? ⟨w.heap.size, 11, none⟩ = some (.string ⟨t1.toArray⟩) := (Ha_1.out.below hSw).cell 11
      have hc12 : X.cell? ⟨w.heap.size, 12, none⟩ = some (.string ⟨t2.toArray⟩) := (Ha_1.out.below hSw).cell 12
      have hc13 : X.cell? ⟨w.heap.size, 13, none⟩ = some (.string ⟨t3.toArray⟩) := (Ha_1.out.below hSw).cell 13
      go_simp
      try with_reducible rfl
    rotate_left
    try simp only [Act.put, List.setIfInBounds_toArray, List.set_cons_zero, List.set_cons_succ, List.getElem_toArray, List.getElem_cons_zero, List.getElem_cons_succ]
    refine wpAnyH_ready (rs := [2]) (by kernel_rfl) (by simp) ?_
    refine (AllReadyH.cons rfl (fun K hK => ?_) AllReadyH.nil)
    rw [if_pos (by rfl)]
    go_wp2_with fail
    refine (HSH.out _).mono ?_
    rintro e wq ⟨rfl, hb⟩
    replace hHeld := below_trans hHeld hb (Below.size hHeld)
    rw [HA.out]
    clear hb
    refine hK.out _ _ hHeld (fun _ => ?_)
    clear hK K
    try simp only [Act.put, List.setIfInBounds_toArray, List.set_cons_zero, List.set_cons_succ, List.getElem_toArray, List.getElem_cons_zero, List.getElem_cons_succ]
    refine wpAnyH_take (i := 3) (v := ?_) rfl (by kernel_rfl) (by kernel_rfl) (by kernel_rfl) (fun _ _ _ h => h) (Or.inl ⟨by rfl, ?_⟩) (by assumption) ?_
    rotate_left
    · intro X hSw
      go_simp
      try with_reducible rfl
    rotate_left
    try simp only [Act.put, List.setIfInBounds_toArray, List.set_cons_zero, List.set_cons_succ, List.getElem_toArray, List.getElem_cons_zero, List.getElem_cons_succ]
    refine wpAnyH_take (i := 4) (v := ?_) rfl (by kernel_rfl) (by kernel_rfl) (by kernel_rfl) (fun _ _ _ h => h) (Or.inl ⟨by rfl, ?_⟩) (by assumption) ?_
    rotate_left
    · intro X hSw
      go_simp
      try with_reducible rfl
    rotate_left
    try simp only [Act.put, List.setIfInBounds_toArray, List.set_cons_zero, List.set_cons_succ, List.getElem_toArray, List.getElem_cons_zero, List.getElem_cons_succ]
    refine wpAnyH_take (i := 5) (v := undef) rfl (by kernel_rfl) (by kernel_rfl) (by kernel_rfl) (fun _ _ _ h => h) (Or.inr ⟨by rfl, rfl⟩) (by assumption) ?_
    try simp only [Act.put, List.setIfInBounds_toArray, List.set_cons_zero, List.set_cons_succ, List.getElem_toArray, List.getElem_cons_zero, List.getElem_cons_succ]
    refine wpAnyH_take (i := 6) (v := undef) rfl (by kernel_rfl) (by kernel_rfl) (by kernel_rfl) (fun _ _ _ h => h) (Or.inr ⟨by rfl, rfl⟩) (by assumption) ?_
    try simp only [Act.put, List.setIfInBounds_toArray, List.set_cons_zero, List.set_cons_succ, List.getElem_toArray, List.getElem_cons_zero, List.getElem_cons_succ]
    refine wpAnyH_take (i := 7) (v := undef) rfl (by kernel_rfl) (by kernel_rfl) (by kernel_rfl) (fun _ _ _ h => h) (Or.inr ⟨by rfl, rfl⟩) (by assumption) ?_
    try simp only [Act.put, List.setIfInBounds_toArray, List.set_cons_zero, List.set_cons_succ, List.getElem_toArray, List.getElem_cons_zero, List.getElem_cons_succ]
    refine wpAnyH_take (i := 8) (v := undef) rfl (by kernel_rfl) (by kernel_rfl) (by kernel_rfl) (fun _ _ _ h => h) (Or.inr ⟨by rfl, rfl⟩) (by assumption) ?_
    try simp only [Act.put, List.setIfInBounds_toArray, List.set_cons_zero, List.set_cons_succ, List.getElem_toArray, List.getElem_cons_zero, List.getElem_cons_succ]
    refine wpAnyH_take (i := 9) (v := undef) rfl (by kernel_rfl) (by kernel_rfl) (by kernel_rfl) (fun _ _ _ h => h) (Or.inr ⟨by rfl, rfl⟩) (by assumption) ?_
    try simp only [Act.put, List.setIfInBounds_toArray, List.set_cons_zero, List.set_cons_succ, List.getElem_toArray, List.getElem_cons_zero, List.getElem_cons_succ]
    refine wpAnyH_take (i := 10) (v := undef) rfl (by kernel_rfl) (by kernel_rfl) (by kernel_rfl) (fun _ _ _ h => h) (Or.inr ⟨by rfl, rfl⟩) (by assumption) ?_
    try simp only [Act.put, List.setIfInBounds_toArray, List.set_cons_zero, List.set_cons_succ, List.getElem_toArray, List.getElem_cons_zero, List.getElem_cons_succ]
    refine wpAnyH_take (i := 11) (v := undef) rfl (by kernel_rfl) (by kernel_rfl) (by kernel_rfl) (fun _ _ _ h => h) (Or.inr ⟨by rfl, rfl⟩) (by assumption) ?_
    try simp only [Act.put, List.setIfInBounds_toArray, List.set_cons_zero, List.set_cons_succ, List.getElem_toArray, List.getElem_cons_zero, List.getElem_cons_succ]
    refine wpAnyH_ready (rs := [12]) (by kernel_rfl) (by simp) ?_
    refine (AllReadyH.cons rfl (fun K hK => ?_) AllReadyH.nil)
    rw [if_neg (by intro h; exact absurd (show false = true from h) (by decide))]
    refine hK.out _ _ hHeld (fun _ => ?_)
    clear hK K
    try simp only [Act.put, List.setIfInBounds_toArray, List.set_cons_zero, List.set_cons_succ, List.getElem_toArray, List.getElem_cons_zero, List.getElem_cons_succ]
    refine wpAnyH_take (i := 13) (v := undef) rfl (by kernel_rfl) (by kernel_rfl) (by kernel_rfl) (fun _ _ _ h => h) (Or.inr ⟨by rfl, rfl⟩) (by assumption) ?_
    try simp only [Act.put, List.setIfInBounds_toArray, List.set_cons_zero, List.set_cons_succ, List.getElem_toArray, List.getElem_cons_zero, List.getElem_cons_succ]
    refine wpAnyH_take (i := 14) (v := undef) rfl (by kernel_rfl) (by kernel_rfl) (by kernel_rfl) (fun _ _ _ h => h) (Or.inr ⟨by rfl, rfl⟩) (by assumption) ?_
    try simp only [Act.put, List.setIfInBounds_toArray, List.set_cons_zero, List.set_cons_succ, List.getElem_toArray, List.getElem_cons_zero, List.getElem_cons_succ]
    refine wpAnyH_take (i := 15) (v := ?_) rfl (by kernel_rfl) (by kernel_rfl) (by kernel_rfl) (fun _ _ _ h => h) (Or.inl ⟨by rfl, ?_⟩) (by assumption) ?_
    rotate_left
    · intro X hSw
      go_simp
      try with_reducible rfl
    rotate_left
    try simp only [Act.put, List.setIfInBounds_toArray, List.set_cons_zero, List.set_cons_succ, List.getElem_toArray, List.getElem_cons_zero, List.getElem_cons_succ]
    refine wpAnyH_take (i := 16) (v := ?_) rfl (by kernel_rfl) (by kernel_rfl) (by kernel_rfl) (fun _ _ _ h => h) (Or.inl ⟨by rfl, ?_⟩) (by assumption) ?_
    rotate_left
    · intro X hSw
      go_simp
      try with_reducible rfl
    rotate_left
    try simp only [Act.put, List.setIfInBounds_toArray, List.set_cons_zero, List.set_cons_succ, List.getElem_toArray, List.getElem_cons_zero, List.getElem_cons_succ]
    refine wpAnyH_take (i := 17) (v := undef) rfl (by kernel_rfl) (by kernel_rfl) (by kernel_rfl) (fun _ _ _ h => h) (Or.inr ⟨by rfl, rfl⟩) (by assumption) ?_
    try simp only [Act.put, List.setIfInBounds_toArray, List.set_cons_zero, List.set_cons_succ, List.getElem_toArray, List.getElem_cons_zero, List.getElem_cons_succ]
    refine wpAnyH_take (i := 18) (v := undef) rfl (by kernel_rfl) (by kernel_rfl) (by kernel_rfl) (fun _ _ _ h => h) (Or.inr ⟨by rfl, rfl⟩) (by assumption) ?_
    try simp only [Act.put, List.setIfInBounds_toArray, List.set_cons_zero, List.set_cons_succ, List.getElem_toArray, List.getElem_cons_zero, List.getElem_cons_succ]
    refine wpAnyH_take (i := 19) (v := undef) rfl (by kernel_rfl) (by kernel_rfl) (by kernel_rfl) (fun _ _ _ h => h) (Or.inr ⟨by rfl, rfl⟩) (by assumption) ?_
    try simp only [Act.put, List.setIfInBounds_toArray, List.set_cons_zero, List.set_cons_succ, List.getElem_toArray, List.getElem_cons_zero, List.getElem_cons_succ]
    refine wpAnyH_ready (rs := [20]) (by kernel_rfl) (by simp) ?_
    refine (AllReadyH.cons rfl (fun K hK => ?_) AllReadyH.nil)
    rw [if_neg (by intro h; exact absurd (show false = true from h) (by decide))]
    refine hK.out _ _ hHeld (fun _ => ?_)
    clear hK K
    try simp only [Act.put, List.setIfInBounds_toArray, List.set_cons_zero, List.set_cons_succ, List.getElem_toArray, List.getElem_cons_zero, List.getElem_cons_succ]
    refine wpAnyH_take (i := 21) (v := undef) rfl (by kernel_rfl) (by kernel_rfl) (by kernel_rfl) (fun _ _ _ h => h) (Or.inr ⟨by rfl, rfl⟩) (by assumption) ?_
    try simp only [Act.put, List.setIfInBounds_toArray, List.set_cons_zero, List.set_cons_succ, List.getElem_toArray, List.getElem_cons_zero, List.getElem_cons_succ]
    refine wpAnyH_take (i := 22) (v := ?_) rfl (by kernel_rfl) (by kernel_rfl) (by kernel_rfl) (fun _ _ _ h => h) (Or.inl ⟨by rfl, ?_⟩) (by assumption) ?_
    rotate_left
    · intro X hSw
      go_simp
      try with_reducible rfl
    rotate_left
    try simp only [Act.put, List.setIfInBounds_toArray, List.set_cons_zero, List.set_cons_succ, List.getElem_toArray, List.getElem_cons_zero, List.getElem_cons_succ]
    refine wpAnyH_done (by kernel_rfl) ?_ _
    have Ha_r2 := Lib.hid (Ha_1.out.below hHeld)
    have Hr_r2 := Lib.hid (Hr_1.out.below hHeld)
    have Hq_r2 := Lib.hid (Hq_1.out.below hHeld)
    have Rn_r2 := Lib.hid (Rn_1.out.below hHeld)
    have Rk_r2 := Lib.hid (Rk_1.out.below hHeld)
    have BW_r2 := Lib.hid (below_trans BW_1.out hHeld BW_1.out.size)
    clear hHeld
    go_wp2_with fail
    go_ret
    exact ⟨rfl, BW_r2.out⟩
  | true =>
    have HA := Lib.hid hsa
    by_cases hbig : (4000 : Int) < (tx.length : Int) + (L : Int)
    · clear hok hsa
      obtain ⟨wu1, hu1⟩ : ∃ u, u = w.alloc (.cells #[.int .i64 m1, .int .i64 m2, .int .i64 m3, .int .i64 m4, .int .i64 m5, .int .i64 m6, .int .i64 k1, .int .i64 k2, .int .i64 k3, .int .i64 k4, .int .i64 k5, .string ⟨t1.toArray⟩, .string ⟨t2.toArray⟩, .string ⟨t3.toArray⟩] 25) := ⟨_, rfl⟩
      have su1 : wu1.heap.size = w.heap.size + 1 := by rw [hu1]; simp
      have tu1 : TBox wu1 (w.heap.size) 25 #[.int .i64 m1, .int .i64 m2, .int .i64 m3, .int .i64 m4, .int .i64 m5, .int .i64 m6, .int .i64 k1, .int .i64 k2, .int .i64 k3, .int .i64 k4, .int .i64 k5, .string ⟨t1.toArray⟩, .string ⟨t2.toArray⟩, .string ⟨t3.toArray⟩] := by rw [hu1]; exact TBox.new _ _ _
      have bu1 : Below w.heap.size w wu1 := by rw [hu1]; exact (Below.refl _ _).alloc (Nat.le_refl _) _
      have BU1 := bu1
      obtain ⟨wu2, hu2⟩ : ∃ u, u = wu1.alloc (.cells #[.int .i64 r1, .int .i64 r2, .int .i64 r3, .int .i64 r4, .int .i64 r5, .int .i64 r6, .int .i64 r7, .int .i64 r8, .int .i64 r9, .string ⟨tx.toArray⟩, .slice A ls.length cp] 31) := ⟨_, rfl⟩
      have su2 : wu2.heap.size = w.heap.size + 2 := by rw [hu2]; simp [su1]
      have tu2 : TBox wu2 (w.heap.size + 1) 31 #[.int .i64 r1, .int .i64 r2, .int .i64 r3, .int .i64 r4, .int .i64 r5, .int .i64 r6, .int .i64 r7, .int .i64 r8, .int .i64 r9, .string ⟨tx.toArray⟩, .slice A ls.length cp] := by rw [hu2, ← su1]; exact TBox.new _ _ _
      have bu2 : Below wu1.heap.size wu1 wu2 := by rw [hu2]; exact (Below.refl _ _).alloc (Nat.le_refl _) _
      have BU2 := below_trans BU1 bu2 BU1.size
      obtain ⟨wu3, hu3⟩ : ∃ u, u = wu2.alloc (.cells #[.int .i64 q1, .int .i64 q2, .int .i64 q3, .int .i64 q4, .int .i64 q5, .int .i64 q6, .int .i64 q7, .int .i64 q8, .int .i64 q9, .string ⟨ux.toArray⟩, .slice B ks.length cq] 31) := ⟨_, rfl⟩
      have su3 : wu3.heap.size = w.heap.size + 3 := by rw [hu3]; simp [su2]
      have tu3 : TBox wu3 (w.heap.size + 2) 31 #[.int .i64 q1, .int .i64 q2, .int .i64 q3, .int .i64 q4, .int .i64 q5, .int .i64 q6, .int .i64 q7, .int .i64 q8, .int .i64 q9, .string ⟨ux.toArray⟩, .slice B ks.length cq] := by rw [hu3, ← su2]; exact TBox.new _ _ _
      have bu3 : Below wu2.heap.size wu2 wu3 := by rw [hu3]; exact (Below.refl _ _).alloc (Nat.le_refl _) _
      have BU3 := below_trans BU2 bu3 BU2.size
      have Ha0 := Lib.hid ((tu1.below bu2).below bu3)
      have Hr0 := Lib.hid (tu2.below bu3)
      have Hq0 := Lib.hid tu3
      have BW_0 := Lib.hid BU3
      have HW : Hid (wu3 = (((w.alloc (.cells #[.int .i64 m1, .int .i64 m2, .int .i64 m3, .int .i64 m4, .int .i64 m5, .int .i64 m6, .int .i64 k1, .int .i64 k2, .int .i64 k3, .int .i64 k4, .int .i64 k5, .string ⟨t1.toArray⟩, .string ⟨t2.toArray⟩, .string ⟨t3.toArray⟩] 25)).alloc (.cells #[.int .i64 r1, .int .i64 r2, .int .i64 r3, .int .i64 r4, .int .i64 r5, .int .i64 r6, .int .i64 r7, .int .i64 r8, .int .i64 r9, .string ⟨tx.toArray⟩, .slice A ls.length cp] 31)).alloc (.cells #[.int .i64 q1, .int .i64 q2, .int .i64 q3, .int .i64 q4, .int .i64 q5, .int .i64 q6, .int .i64 q7, .int .i64 q8, .int .i64 q9, .string ⟨ux.toArray⟩, .slice B ks.length cq] 31))) := Lib.hid (by rw [hu3, hu2, hu1])
      have HSZ := Lib.hid su3
      obtain ⟨W0, hW0⟩ : ∃ u, u = wu3 := ⟨_, rfl⟩
      rw [← hW0] at Ha0 Hr0 Hq0 BW_0 HW HSZ
      clear hW0 hu1 su1 tu1 bu1 BU1 hu2 su2 tu2 bu2 BU2 hu3 su3 tu3 bu3 BU3
      have Rn0 := Lib.hid (hrow.below BW_0.out)
      have Rk0 := Lib.hid (krow.below BW_0.out)
      clear hrow krow
      go_enter Try.func3, Try.ntmps3
      go_wp2_with fail
      rw [← HW.out]
      refine (law_shown _).mono ?_
      rintro e w1 ⟨rfl, hb⟩
      have Ha_1 := Lib.hid (Ha0.out.below hb)
      have Hr_1 := Lib.hid (Hr0.out.below hb)
      have Hq_1 := Lib.hid (Hq0.out.below hb)
      have Rn_1 := Lib.hid (Rn0.out.below hb)
      have Rk_1 := Lib.hid (Rk0.out.below hb)
      have BW_1 := Lib.hid (below_trans BW_0.out hb BW_0.out.size)
      clear hb 
      go_wp2_with fail
      refine wp_region_held_drew (S := fun V => Below w1.heap.size w1 V) (by kernel_rfl) (below_dn (Below.refl _ _) 1) (fun hHeld => ?_)
      refine wpAnyH_take (i := 0) (v := ?_) rfl (by kernel_rfl) (by kernel_rfl) (by kernel_rfl) (fun _ _ _ h => h) (Or.inl ⟨by rfl, ?_⟩) (by assumption) ?_
      rotate_left
      · intro X hSw
        go_simp
        try with_reducible rfl
      rotate_left
      try simp only [Act.put, List.setIfInBounds_toArray, List.set_cons_zero, List.set_cons_succ, List.getElem_toArray, List.getElem_cons_zero, List.getElem_cons_succ]
      refine wpAnyH_take (i := 1) (v := ?_) rfl (by kernel_rfl) (by kernel_rfl) (by kernel_rfl) (fun _ _ _ h => h) (Or.inl ⟨by rfl, ?_⟩) (by assumption) ?_
      rotate_left
      · intro X hSw
        have hc0 : X.cell? ⟨w.heap.size, 0, none⟩ = some (.int .i64 m1) := (Ha_1.out.below hSw).cell 0
        have hc1 : X.cell? ⟨w.heap.size, 1, none⟩ = some (.int .i64 m2) := (Ha_1.out.below hSw).cell 1
        have hc2 : X.cell? ⟨w.heap.size, 2, none⟩ = some (.int .i64 m3) := (Ha_1.out.below hSw).cell 2
        have hc3 : X.cell? ⟨w.heap.size, 3, none⟩ = some (.int .i64 m4) := (Ha_1.out.below hSw).cell 3
        have hc4 : X.cell? ⟨w.heap.size, 4, none⟩ = some (.int .i64 m5) := (Ha_1.out.below hSw).cell 4
        have hc5 : X.cell? ⟨w.heap.size, 5, none⟩ = some (.int .i64 m6) := (Ha_1.out.below hSw).cell 5
        have hc6 : X.cell? ⟨w.heap.size, 6, none⟩ = some (.int .i64 k1) := (Ha_1.out.below hSw).cell 6
        have hc7 : X.cell? ⟨w.heap.size, 7, none⟩ = some (.int .i64 k2) := (Ha_1.out.below hSw).cell 7
        have hc8 : X.cell? ⟨w.heap.size, 8, none⟩ = some (.int .i64 k3) := (Ha_1.out.below hSw).cell 8
        have hc9 : X.cell? ⟨w.heap.size, 9, none⟩ = some (.int .i64 k4) := (Ha_1.out.below hSw).cell 9
        have hc10 : X.cell? ⟨w.heap.size, 10, none⟩ = some (.int .i64 k5) := (Ha_1.out.below hSw).cell 10
        have hc11 : X.cell? ⟨w.heap.size, 11, none⟩ = some (.string ⟨t1.toArray⟩) := (Ha_1.out.below hSw).cell 11
        have hc12 : X.cell? ⟨w.heap.size, 12, none⟩ = some (.string ⟨t2.toArray⟩) := (Ha_1.out.below hSw).cell 12
        have hc13 : X.cell? ⟨w.heap.size, 13, none⟩ = some (.string ⟨t3.toArray⟩) := (Ha_1.out.below hSw).cell 13
        go_simp
        try with_reducible rfl
      rotate_left
      try simp only [Act.put, List.setIfInBounds_toArray, List.set_cons_zero, List.set_cons_succ, List.getElem_toArray, List.getElem_cons_zero, List.getElem_cons_succ]
      refine wpAnyH_ready (rs := [2]) (by kernel_rfl) (by simp) ?_
      refine (AllReadyH.cons rfl (fun K hK => ?_) AllReadyH.nil)
      rw [if_pos (by rfl)]
      go_wp2_with fail
      refine (HSH.out _).mono ?_
      rintro e wq ⟨rfl, hb⟩
      replace hHeld := below_trans hHeld hb (Below.size hHeld)
      rw [HA.out]
      clear hb
      refine hK.out _ _ hHeld (fun _ => ?_)
      clear hK K
      try simp only [Act.put, List.setIfInBounds_toArray, List.set_cons_zero, List.set_cons_succ, List.getElem_toArray, List.getElem_cons_zero, List.getElem_cons_succ]
      refine wpAnyH_take (i := 3) (v := ?_) rfl (by kernel_rfl) (by kernel_rfl) (by kernel_rfl) (fun _ _ _ h => h) (Or.inl ⟨by rfl, ?_⟩) (by assumption) ?_
      rotate_left
      · intro X hSw
        go_simp
        try with_reducible rfl
      rotate_left
      try simp only [Act.put, List.setIfInBounds_toArray, List.set_cons_zero, List.set_cons_succ, List.getElem_toArray, List.getElem_cons_zero, List.getElem_cons_succ]
      refine wpAnyH_take (i := 4) (v := ?_) rfl (by kernel_rfl) (by kernel_rfl) (by kernel_rfl) (fun _ _ _ h => h) (Or.inl ⟨by rfl, ?_⟩) (by assumption) ?_
      rotate_left
      · intro X hSw
        go_simp
        try with_reducible rfl
      rotate_left
      try simp only [Act.put, List.setIfInBounds_toArray, List.set_cons_zero, List.set_cons_succ, List.getElem_toArray, List.getElem_cons_zero, List.getElem_cons_succ]
      refine wpAnyH_take (i := 5) (v := ?_) rfl (by kernel_rfl) (by kernel_rfl) (by kernel_rfl) (fun _ _ _ h => h) (Or.inl ⟨by rfl, ?_⟩) (by assumption) ?_
      rotate_left
      · intro X hSw
        go_simp
        try with_reducible rfl
      rotate_left
      try simp only [Act.put, List.setIfInBounds_toArray, List.set_cons_zero, List.set_cons_succ, List.getElem_toArray, List.getElem_cons_zero, List.getElem_cons_succ]
      refine wpAnyH_take (i := 6) (v := ?_) rfl (by kernel_rfl) (by kernel_rfl) (by kernel_rfl) (fun _ _ _ h => h) (Or.inl ⟨by rfl, ?_⟩) (by assumption) ?_
      rotate_left
      · intro X hSw
        go_simp
        try with_reducible rfl
      rotate_left
      try simp only [Act.put, List.setIfInBounds_toArray, List.set_cons_zero, List.set_cons_succ, List.getElem_toArray, List.getElem_cons_zero, List.getElem_cons_succ]
      refine wpAnyH_take (i := 7) (v := ?_) rfl (by kernel_rfl) (by kernel_rfl) (by kernel_rfl) (fun _ _ _ h => h) (Or.inl ⟨by rfl, ?_⟩) (by assumption) ?_
      rotate_left
      · intro X hSw
        have hc0 : X.cell? ⟨(w.heap.size + 1), 0, none⟩ = some (.int .i64 r1) := (Hr_1.out.below hSw).cell 0
        have hc1 : X.cell? ⟨(w.heap.size + 1), 1, none⟩ = some (.int .i64 r2) := (Hr_1.out.below hSw).cell 1
        have hc2 : X.cell? ⟨(w.heap.size + 1), 2, none⟩ = some (.int .i64 r3) := (Hr_1.out.below hSw).cell 2
        have hc3 : X.cell? ⟨(w.heap.size + 1), 3, none⟩ = some (.int .i64 r4) := (Hr_1.out.below hSw).cell 3
        have hc4 : X.cell? ⟨(w.heap.size + 1), 4, none⟩ = some (.int .i64 r5) := (Hr_1.out.below hSw).cell 4
        have hc5 : X.cell? ⟨(w.heap.size + 1), 5, none⟩ = some (.int .i64 r6) := (Hr_1.out.below hSw).cell 5
        have hc6 : X.cell? ⟨(w.heap.size + 1), 6, none⟩ = some (.int .i64 r7) := (Hr_1.out.below hSw).cell 6
        have hc7 : X.cell? ⟨(w.heap.size + 1), 7, none⟩ = some (.int .i64 r8) := (Hr_1.out.below hSw).cell 7
        have hc8 : X.cell? ⟨(w.heap.size + 1), 8, none⟩ = some (.int .i64 r9) := (Hr_1.out.below hSw).cell 8
        have hc9 : X.cell? ⟨(w.heap.size + 1), 9, none⟩ = some (.string ⟨tx.toArray⟩) := (Hr_1.out.below hSw).cell 9
        have hc10 : X.cell? ⟨(w.heap.size + 1), 10, none⟩ = some (.slice A ls.length cp) := (Hr_1.out.below hSw).cell 10
        go_simp
        try with_reducible rfl
      rotate_left
      try simp only [Act.put, List.setIfInBounds_toArray, List.set_cons_zero, List.set_cons_succ, List.getElem_toArray, List.getElem_cons_zero, List.getElem_cons_succ]
      refine wpAnyH_take (i := 8) (v := ?_) rfl (by kernel_rfl) (by kernel_rfl) (by kernel_rfl) (fun _ _ _ h => h) (Or.inl ⟨by rfl, ?_⟩) (by assumption) ?_
      rotate_left
      · intro X hSw
        go_simp
        try with_reducible rfl
      rotate_left
      try simp only [Act.put, List.setIfInBounds_toArray, List.set_cons_zero, List.set_cons_succ, List.getElem_toArray, List.getElem_cons_zero, List.getElem_cons_succ]
      refine wpAnyH_take (i := 9) (v := ?_) rfl (by kernel_rfl) (by kernel_rfl) (by kernel_rfl) (fun _ _ _ h => h) (Or.inl ⟨by rfl, ?_⟩) (by assumption) ?_
      rotate_left
      · intro X hSw
        go_simp
        try with_reducible rfl
      rotate_left
      try simp only [Act.put, List.setIfInBounds_toArray, List.set_cons_zero, List.set_cons_succ, List.getElem_toArray, List.getElem_cons_zero, List.getElem_cons_succ]
      refine wpAnyH_take (i := 10) (v := ?_) rfl (by kernel_rfl) (by kernel_rfl) (by kernel_rfl) (fun _ _ _ h => h) (Or.inl ⟨by rfl, ?_⟩) (by assumption) ?_
      rotate_left
      · intro X hSw
        go_simp
        try with_reducible rfl
      rotate_left
      try simp only [Act.put, List.setIfInBounds_toArray, List.set_cons_zero, List.set_cons_succ, List.getElem_toArray, List.getElem_cons_zero, List.getElem_cons_succ]
      refine wpAnyH_take (i := 11) (v := ?_) rfl (by kernel_rfl) (by kernel_rfl) (by kernel_rfl) (fun _ _ _ h => h) (Or.inl ⟨by rfl, ?_⟩) (by assumption) ?_
      rotate_left
      · intro X hSw
        have hc0 : X.cell? ⟨(w.heap.size + 1), 0, none⟩ = some (.int .i64 r1) := (Hr_1.out.below hSw).cell 0
        have hc1 : X.cell? ⟨(w.heap.size + 1), 1, none⟩ = some (.int .i64 r2) := (Hr_1.out.below hSw).cell 1
        have hc2 : X.cell? ⟨(w.heap.size + 1), 2, none⟩ = some (.int .i64 r3) := (Hr_1.out.below hSw).cell 2
        have hc3 : X.cell? ⟨(w.heap.size + 1), 3, none⟩ = some (.int .i64 r4) := (Hr_1.out.below hSw).cell 3
        have hc4 : X.cell? ⟨(w.heap.size + 1), 4, none⟩ = some (.int .i64 r5) := (Hr_1.out.below hSw).cell 4
        have hc5 : X.cell? ⟨(w.heap.size + 1), 5, none⟩ = some (.int .i64 r6) := (Hr_1.out.below hSw).cell 5
        have hc6 : X.cell? ⟨(w.heap.size + 1), 6, none⟩ = some (.int .i64 r7) := (Hr_1.out.below hSw).cell 6
        have hc7 : X.cell? ⟨(w.heap.size + 1), 7, none⟩ = some (.int .i64 r8) := (Hr_1.out.below hSw).cell 7
        have hc8 : X.cell? ⟨(w.heap.size + 1), 8, none⟩ = some (.int .i64 r9) := (Hr_1.out.below hSw).cell 8
        have hc9 : X.cell? ⟨(w.heap.size + 1), 9, none⟩ = some (.string ⟨tx.toArray⟩) := (Hr_1.out.below hSw).cell 9
        have hc10 : X.cell? ⟨(w.heap.size + 1), 10, none⟩ = some (.slice A ls.length cp) := (Hr_1.out.below hSw).cell 10
        go_simp
        try with_reducible rfl
      rotate_left
      try simp only [Act.put, List.setIfInBounds_toArray, List.set_cons_zero, List.set_cons_succ, List.getElem_toArray, List.getElem_cons_zero, List.getElem_cons_succ]
      refine wpAnyH_ready (rs := [12]) (by kernel_rfl) (by simp) ?_
      refine (AllReadyH.cons rfl (fun K hK => ?_) AllReadyH.nil)
      rw [if_pos (by rfl)]
      go_wp2_with fail
      refine (HLG.out _ _ (Rn_1.out.below hHeld)).mono ?_
      rintro e wq2 ⟨rfl, rfl⟩
      refine hK.out _ _ hHeld (fun _ => ?_)
      clear hK K
      try simp only [Act.put, List.setIfInBounds_toArray, List.set_cons_zero, List.set_cons_succ, List.getElem_toArray, List.getElem_cons_zero, List.getElem_cons_succ]
      refine wpAnyH_take (i := 13) (v := ?_) rfl (by kernel_rfl) (by kernel_rfl) (by kernel_rfl) (fun _ _ _ h => h) (Or.inl ⟨by rfl, ?_⟩) (by assumption) ?_
      rotate_left
      · intro X hSw
        go_simp
        try with_reducible rfl
      rotate_left
      try simp only [Act.put, List.setIfInBounds_toArray, List.set_cons_zero, List.set_cons_succ, List.getElem_toArray, List.getElem_cons_zero, List.getElem_cons_succ]
      refine wpAnyH_take (i := 14) (v := .bool true) rfl (by kernel_rfl) (by kernel_rfl) (by kernel_rfl) (fun _ _ _ h => h) (Or.inl ⟨by rfl, ?_⟩) (by assumption) ?_
      · intro X hSw
        go_simp
        rw [HWR.out]
        exact hbig
      try simp only [Act.put, List.setIfInBounds_toArray, List.set_cons_zero, List.set_cons_succ, List.getElem_toArray, List.getElem_cons_zero, List.getElem_cons_succ]
      refine wpAnyH_take (i := 15) (v := ?_) rfl (by kernel_rfl) (by kernel_rfl) (by kernel_rfl) (fun _ _ _ h => h) (Or.inl ⟨by rfl, ?_⟩) (by assumption) ?_
      rotate_left
      · intro X hSw
        go_simp
        try with_reducible rfl
      rotate_left
      try simp only [Act.put, List.setIfInBounds_toArray, List.set_cons_zero, List.set_cons_succ, List.getElem_toArray, List.getElem_cons_zero, List.getElem_cons_succ]
      refine wpAnyH_take (i := 16) (v := ?_) rfl (by kernel_rfl) (by kernel_rfl) (by kernel_rfl) (fun _ _ _ h => h) (Or.inl ⟨by rfl, ?_⟩) (by assumption) ?_
      rotate_left
      · intro X hSw
        go_simp
        try with_reducible rfl
      rotate_left
      try simp only [Act.put, List.setIfInBounds_toArray, List.set_cons_zero, List.set_cons_succ, List.getElem_toArray, List.getElem_cons_zero, List.getElem_cons_succ]
      refine wpAnyH_take (i := 17) (v := undef) rfl (by kernel_rfl) (by kernel_rfl) (by kernel_rfl) (fun _ _ _ h => h) (Or.inr ⟨by rfl, rfl⟩) (by assumption) ?_
      try simp only [Act.put, List.setIfInBounds_toArray, List.set_cons_zero, List.set_cons_succ, List.getElem_toArray, List.getElem_cons_zero, List.getElem_cons_succ]
      refine wpAnyH_take (i := 18) (v := undef) rfl (by kernel_rfl) (by kernel_rfl) (by kernel_rfl) (fun _ _ _ h => h) (Or.inr ⟨by rfl, rfl⟩) (by assumption) ?_
      try simp only [Act.put, List.setIfInBounds_toArray, List.set_cons_zero, List.set_cons_succ, List.getElem_toArray, List.getElem_cons_zero, List.getElem_cons_succ]
      refine wpAnyH_take (i := 19) (v := undef) rfl (by kernel_rfl) (by kernel_rfl) (by kernel_rfl) (fun _ _ _ h => h) (Or.inr ⟨by rfl, rfl⟩) (by assumption) ?_
      try simp only [Act.put, List.setIfInBounds_toArray, List.set_cons_zero, List.set_cons_succ, List.getElem_toArray, List.getElem_cons_zero, List.getElem_cons_succ]
      refine wpAnyH_ready (rs := [20]) (by kernel_rfl) (by simp) ?_
      refine (AllReadyH.cons rfl (fun K hK => ?_) AllReadyH.nil)
      rw [if_neg (by intro h; exact absurd (show false = true from h) (by decide))]
      refine hK.out _ _ hHeld (fun _ => ?_)
      clear hK K
      try simp only [Act.put, List.setIfInBounds_toArray, List.set_cons_zero, List.set_cons_succ, List.getElem_toArray, List.getElem_cons_zero, List.getElem_cons_succ]
      refine wpAnyH_take (i := 21) (v := undef) rfl (by kernel_rfl) (by kernel_rfl) (by kernel_rfl) (fun _ _ _ h => h) (Or.inr ⟨by rfl, rfl⟩) (by assumption) ?_
      try simp only [Act.put, List.setIfInBounds_toArray, List.set_cons_zero, List.set_cons_succ, List.getElem_toArray, List.getElem_cons_zero, List.getElem_cons_succ]
      refine wpAnyH_take (i := 22) (v := ?_) rfl (by kernel_rfl) (by kernel_rfl) (by kernel_rfl) (fun _ _ _ h => h) (Or.inl ⟨by rfl, ?_⟩) (by assumption) ?_
      rotate_left
      · intro X hSw
        go_simp
        try with_reducible rfl
      rotate_left
      try simp only [Act.put, List.setIfInBounds_toArray, List.set_cons_zero, List.set_cons_succ, List.getElem_toArray, List.getElem_cons_zero, List.getElem_cons_succ]
      refine wpAnyH_done (by kernel_rfl) ?_ _
      have Ha_r2 := Lib.hid (Ha_1.out.below hHeld)
      have Hr_r2 := Lib.hid (Hr_1.out.below hHeld)
      have Hq_r2 := Lib.hid (Hq_1.out.below hHeld)
      have Rn_r2 := Lib.hid (Rn_1.out.below hHeld)
      have Rk_r2 := Lib.hid (Rk_1.out.below hHeld)
      have BW_r2 := Lib.hid (below_trans BW_1.out hHeld BW_1.out.size)
      clear hHeld
      go_wp2_with fail
      go_ret
      exact ⟨rfl, BW_r2.out⟩
    have hbig : (tx.length : Int) + (L : Int) ≤ 4000 := by omega
    by_cases hbik : (4000 : Int) < (K : Int)
    · clear hok hsa
      obtain ⟨wu1, hu1⟩ : ∃ u, u = w.alloc (.cells #[.int .i64 m1, .int .i64 m2, .int .i64 m3, .int .i64 m4, .int .i64 m5, .int .i64 m6, .int .i64 k1, .int .i64 k2, .int .i64 k3, .int .i64 k4, .int .i64 k5, .string ⟨t1.toArray⟩, .string ⟨t2.toArray⟩, .string ⟨t3.toArray⟩] 25) := ⟨_, rfl⟩
      have su1 : wu1.heap.size = w.heap.size + 1 := by rw [hu1]; simp
      have tu1 : TBox wu1 (w.heap.size) 25 #[.int .i64 m1, .int .i64 m2, .int .i64 m3, .int .i64 m4, .int .i64 m5, .int .i64 m6, .int .i64 k1, .int .i64 k2, .int .i64 k3, .int .i64 k4, .int .i64 k5, .string ⟨t1.toArray⟩, .string ⟨t2.toArray⟩, .string ⟨t3.toArray⟩] := by rw [hu1]; exact TBox.new _ _ _
      have bu1 : Below w.heap.size w wu1 := by rw [hu1]; exact (Below.refl _ _).alloc (Nat.le_refl _) _
      have BU1 := bu1
      obtain ⟨wu2, hu2⟩ : ∃ u, u = wu1.alloc (.cells #[.int .i64 r1, .int .i64 r2, .int .i64 r3, .int .i64 r4, .int .i64 r5, .int .i64 r6, .int .i64 r7, .int .i64 r8, .int .i64 r9, .string ⟨tx.toArray⟩, .slice A ls.length cp] 31) := ⟨_, rfl⟩
      have su2 : wu2.heap.size = w.heap.size + 2 := by rw [hu2]; simp [su1]
      have tu2 : TBox wu2 (w.heap.size + 1) 31 #[.int .i64 r1, .int .i64 r2, .int .i64 r3, .int .i64 r4, .int .i64 r5, .int .i64 r6, .int .i64 r7, .int .i64 r8, .int .i64 r9, .string ⟨tx.toArray⟩, .slice A ls.length cp] := by rw [hu2, ← su1]; exact TBox.new _ _ _
      have bu2 : Below wu1.heap.size wu1 wu2 := by rw [hu2]; exact (Below.refl _ _).alloc (Nat.le_refl _) _
      have BU2 := below_trans BU1 bu2 BU1.size
      obtain ⟨wu3, hu3⟩ : ∃ u, u = wu2.alloc (.cells #[.int .i64 q1, .int .i64 q2, .int .i64 q3, .int .i64 q4, .int .i64 q5, .int .i64 q6, .int .i64 q7, .int .i64 q8, .int .i64 q9, .string ⟨ux.toArray⟩, .slice B ks.length cq] 31) := ⟨_, rfl⟩
      have su3 : wu3.heap.size = w.heap.size + 3 := by rw [hu3]; simp [su2]
      have tu3 : TBox wu3 (w.heap.size + 2) 31 #[.int .i64 q1, .int .i64 q2, .int .i64 q3, .int .i64 q4, .int .i64 q5, .int .i64 q6, .int .i64 q7, .int .i64 q8, .int .i64 q9, .string ⟨ux.toArray⟩, .slice B ks.length cq] := by rw [hu3, ← su2]; exact TBox.new _ _ _
      have bu3 : Below wu2.heap.size wu2 wu3 := by rw [hu3]; exact (Below.refl _ _).alloc (Nat.le_refl _) _
      have BU3 := below_trans BU2 bu3 BU2.size
      have Ha0 := Lib.hid ((tu1.below bu2).below bu3)
      have Hr0 := Lib.hid (tu2.below bu3)
      have Hq0 := Lib.hid tu3
      have BW_0 := Lib.hid BU3
      have HW : Hid (wu3 = (((w.alloc (.cells #[.int .i64 m1, .int .i64 m2, .int .i64 m3, .int .i64 m4, .int .i64 m5, .int .i64 m6, .int .i64 k1, .int .i64 k2, .int .i64 k3, .int .i64 k4, .int .i64 k5, .string ⟨t1.toArray⟩, .string ⟨t2.toArray⟩, .string ⟨t3.toArray⟩] 25)).alloc (.cells #[.int .i64 r1, .int .i64 r2, .int .i64 r3, .int .i64 r4, .int .i64 r5, .int .i64 r6, .int .i64 r7, .int .i64 r8, .int .i64 r9, .string ⟨tx.toArray⟩, .slice A ls.length cp] 31)).alloc (.cells #[.int .i64 q1, .int .i64 q2, .int .i64 q3, .int .i64 q4, .int .i64 q5, .int .i64 q6, .int .i64 q7, .int .i64 q8, .int .i64 q9, .string ⟨ux.toArray⟩, .slice B ks.length cq] 31))) := Lib.hid (by rw [hu3, hu2, hu1])
      have HSZ := Lib.hid su3
      obtain ⟨W0, hW0⟩ : ∃ u, u = wu3 := ⟨_, rfl⟩
      rw [← hW0] at Ha0 Hr0 Hq0 BW_0 HW HSZ
      clear hW0 hu1 su1 tu1 bu1 BU1 hu2 su2 tu2 bu2 BU2 hu3 su3 tu3 bu3 BU3
      have Rn0 := Lib.hid (hrow.below BW_0.out)
      have Rk0 := Lib.hid (krow.below BW_0.out)
      clear hrow krow
      go_enter Try.func3, Try.ntmps3
      go_wp2_with fail
      rw [← HW.out]
      refine (law_shown _).mono ?_
      rintro e w1 ⟨rfl, hb⟩
      have Ha_1 := Lib.hid (Ha0.out.below hb)
      have Hr_1 := Lib.hid (Hr0.out.below hb)
      have Hq_1 := Lib.hid (Hq0.out.below hb)
      have Rn_1 := Lib.hid (Rn0.out.below hb)
      have Rk_1 := Lib.hid (Rk0.out.below hb)
      have BW_1 := Lib.hid (below_trans BW_0.out hb BW_0.out.size)
      clear hb 
      go_wp2_with fail
      refine wp_region_held_drew (S := fun V => Below w1.heap.size w1 V) (by kernel_rfl) (below_dn (Below.refl _ _) 1) (fun hHeld => ?_)
      refine wpAnyH_take (i := 0) (v := ?_) rfl (by kernel_rfl) (by kernel_rfl) (by kernel_rfl) (fun _ _ _ h => h) (Or.inl ⟨by rfl, ?_⟩) (by assumption) ?_
      rotate_left
      · intro X hSw
        go_simp
        try with_reducible rfl
      rotate_left
      try simp only [Act.put, List.setIfInBounds_toArray, List.set_cons_zero, List.set_cons_succ, List.getElem_toArray, List.getElem_cons_zero, List.getElem_cons_succ]
      refine wpAnyH_take (i := 1) (v := ?_) rfl (by kernel_rfl) (by kernel_rfl) (by kernel_rfl) (fun _ _ _ h => h) (Or.inl ⟨by rfl, ?_⟩) (by assumption) ?_
      rotate_left
      · intro X hSw
        have hc0 : X.cell? ⟨w.heap.size, 0, none⟩ = some (.int .i64 m1) := (Ha_1.out.below hSw).cell 0
        have hc1 : X.cell? ⟨w.heap.size, 1, none⟩ = some (.int .i64 m2) := (Ha_1.out.below hSw).cell 1
        have hc2 : X.cell? ⟨w.heap.size, 2, none⟩ = some (.int .i64 m3) := (Ha_1.out.below hSw).cell 2
        have hc3 : X.cell? ⟨w.heap.size, 3, none⟩ = some (.int .i64 m4) := (Ha_1.out.below hSw).cell 3
        have hc4 : X.cell? ⟨w.heap.size, 4, none⟩ = some (.int .i64 m5) := (Ha_1.out.below hSw).cell 4
        have hc5 : X.cell? ⟨w.heap.size, 5, none⟩ = some (.int .i64 m6) := (Ha_1.out.below hSw).cell 5
        have hc6 : X.cell? ⟨w.heap.size, 6, none⟩ = some (.int .i64 k1) := (Ha_1.out.below hSw).cell 6
        have hc7 : X.cell? ⟨w.heap.size, 7, none⟩ = some (.int .i64 k2) := (Ha_1.out.below hSw).cell 7
        have hc8 : X.cell? ⟨w.heap.size, 8, none⟩ = some (.int .i64 k3) := (Ha_1.out.below hSw).cell 8
        have hc9 : X.cell? ⟨w.heap.size, 9, none⟩ = some (.int .i64 k4) := (Ha_1.out.below hSw).cell 9
        have hc10 : X.cell? ⟨w.heap.size, 10, none⟩ = some (.int .i64 k5) := (Ha_1.out.below hSw).cell 10
        have hc11 : X.cell? ⟨w.heap.size, 11, none⟩ = some (.string ⟨t1.toArray⟩) := (Ha_1.out.below hSw).cell 11
        have hc12 : X.cell? ⟨w.heap.size, 12, none⟩ = some (.string ⟨t2.toArray⟩) := (Ha_1.out.below hSw).cell 12
        have hc13 : X.cell? ⟨w.heap.size, 13, none⟩ = some (.string ⟨t3.toArray⟩) := (Ha_1.out.below hSw).cell 13
        go_simp
        try with_reducible rfl
      rotate_left
      try simp only [Act.put, List.setIfInBounds_toArray, List.set_cons_zero, List.set_cons_succ, List.getElem_toArray, List.getElem_cons_zero, List.getElem_cons_succ]
      refine wpAnyH_ready (rs := [2]) (by kernel_rfl) (by simp) ?_
      refine (AllReadyH.cons rfl (fun K hK => ?_) AllReadyH.nil)
      rw [if_pos (by rfl)]
      go_wp2_with fail
      refine (HSH.out _).mono ?_
      rintro e wq ⟨rfl, hb⟩
      replace hHeld := below_trans hHeld hb (Below.size hHeld)
      rw [HA.out]
      clear hb
      refine hK.out _ _ hHeld (fun _ => ?_)
      clear hK K
      try simp only [Act.put, List.setIfInBounds_toArray, List.set_cons_zero, List.set_cons_succ, List.getElem_toArray, List.getElem_cons_zero, List.getElem_cons_succ]
      refine wpAnyH_take (i := 3) (v := ?_) rfl (by kernel_rfl) (by kernel_rfl) (by kernel_rfl) (fun _ _ _ h => h) (Or.inl ⟨by rfl, ?_⟩) (by assumption) ?_
      rotate_left
      · intro X hSw
        go_simp
        try with_reducible rfl
      rotate_left
      try simp only [Act.put, List.setIfInBounds_toArray, List.set_cons_zero, List.set_cons_succ, List.getElem_toArray, List.getElem_cons_zero, List.getElem_cons_succ]
      refine wpAnyH_take (i := 4) (v := ?_) rfl (by kernel_rfl) (by kernel_rfl) (by kernel_rfl) (fun _ _ _ h => h) (Or.inl ⟨by rfl, ?_⟩) (by assumption) ?_
      rotate_left
      · intro X hSw
        go_simp
        try with_reducible rfl
      rotate_left
      try simp only [Act.put, List.setIfInBounds_toArray, List.set_cons_zero, List.set_cons_succ, List.getElem_toArray, List.getElem_cons_zero, List.getElem_cons_succ]
      refine wpAnyH_take (i := 5) (v := ?_) rfl (by kernel_rfl) (by kernel_rfl) (by kernel_rfl) (fun _ _ _ h => h) (Or.inl ⟨by rfl, ?_⟩) (by assumption) ?_
      rotate_left
      · intro X hSw
        go_simp
        try with_reducible rfl
      rotate_left
      try simp only [Act.put, List.setIfInBounds_toArray, List.set_cons_zero, List.set_cons_succ, List.getElem_toArray, List.getElem_cons_zero, List.getElem_cons_succ]
      refine wpAnyH_take (i := 6) (v := ?_) rfl (by kernel_rfl) (by kernel_rfl) (by kernel_rfl) (fun _ _ _ h => h) (Or.inl ⟨by rfl, ?_⟩) (by assumption) ?_
      rotate_left
      · intro X hSw
        go_simp
        try with_reducible rfl
      rotate_left
      try simp only [Act.put, List.setIfInBounds_toArray, List.set_cons_zero, List.set_cons_succ, List.getElem_toArray, List.getElem_cons_zero, List.getElem_cons_succ]
      refine wpAnyH_take (i := 7) (v := ?_) rfl (by kernel_rfl) (by kernel_rfl) (by kernel_rfl) (fun _ _ _ h => h) (Or.inl ⟨by rfl, ?_⟩) (by assumption) ?_
      rotate_left
      · intro X hSw
        have hc0 : X.cell? ⟨(w.heap.size + 1), 0, none⟩ = some (.int .i64 r1) := (Hr_1.out.below hSw).cell 0
        have hc1 : X.cell? ⟨(w.heap.size + 1), 1, none⟩ = some (.int .i64 r2) := (Hr_1.out.below hSw).cell 1
        have hc2 : X.cell? ⟨(w.heap.size + 1), 2, none⟩ = some (.int .i64 r3) := (Hr_1.out.below hSw).cell 2
        have hc3 : X.cell? ⟨(w.heap.size + 1), 3, none⟩ = some (.int .i64 r4) := (Hr_1.out.below hSw).cell 3
        have hc4 : X.cell? ⟨(w.heap.size + 1), 4, none⟩ = some (.int .i64 r5) := (Hr_1.out.below hSw).cell 4
        have hc5 : X.cell? ⟨(w.heap.size + 1), 5, none⟩ = some (.int .i64 r6) := (Hr_1.out.below hSw).cell 5
        have hc6 : X.cell? ⟨(w.heap.size + 1), 6, none⟩ = some (.int .i64 r7) := (Hr_1.out.below hSw).cell 6
        have hc7 : X.cell? ⟨(w.heap.size + 1), 7, none⟩ = some (.int .i64 r8) := (Hr_1.out.below hSw).cell 7
        have hc8 : X.cell? ⟨(w.heap.size + 1), 8, none⟩ = some (.int .i64 r9) := (Hr_1.out.below hSw).cell 8
        have hc9 : X.cell? ⟨(w.heap.size + 1), 9, none⟩ = some (.string ⟨tx.toArray⟩) := (Hr_1.out.below hSw).cell 9
        have hc10 : X.cell? ⟨(w.heap.size + 1), 10, none⟩ = some (.slice A ls.length cp) := (Hr_1.out.below hSw).cell 10
        go_simp
        try with_reducible rfl
      rotate_left
      try simp only [Act.put, List.setIfInBounds_toArray, List.set_cons_zero, List.set_cons_succ, List.getElem_toArray, List.getElem_cons_zero, List.getElem_cons_succ]
      refine wpAnyH_take (i := 8) (v := ?_) rfl (by kernel_rfl) (by kernel_rfl) (by kernel_rfl) (fun _ _ _ h => h) (Or.inl ⟨by rfl, ?_⟩) (by assumption) ?_
      rotate_left
      · intro X hSw
        go_simp
        try with_reducible rfl
      rotate_left
      try simp only [Act.put, List.setIfInBounds_toArray, List.set_cons_zero, List.set_cons_succ, List.getElem_toArray, List.getElem_cons_zero, List.getElem_cons_succ]
      refine wpAnyH_take (i := 9) (v := ?_) rfl (by kernel_rfl) (by kernel_rfl) (by kernel_rfl) (fun _ _ _ h => h) (Or.inl ⟨by rfl, ?_⟩) (by assumption) ?_
      rotate_left
      · intro X hSw
        go_simp
        try with_reducible rfl
      rotate_left
      try simp only [Act.put, List.setIfInBounds_toArray, List.set_cons_zero, List.set_cons_succ, List.getElem_toArray, List.getElem_cons_zero, List.getElem_cons_succ]
      refine wpAnyH_take (i := 10) (v := ?_) rfl (by kernel_rfl) (by kernel_rfl) (by kernel_rfl) (fun _ _ _ h => h) (Or.inl ⟨by rfl, ?_⟩) (by assumption) ?_
      rotate_left
      · intro X hSw
        go_simp
        try with_reducible rfl
      rotate_left
      try simp only [Act.put, List.setIfInBounds_toArray, List.set_cons_zero, List.set_cons_succ, List.getElem_toArray, List.getElem_cons_zero, List.getElem_cons_succ]
      refine wpAnyH_take (i := 11) (v := ?_) rfl (by kernel_rfl) (by kernel_rfl) (by kernel_rfl) (fun _ _ _ h => h) (Or.inl ⟨by rfl, ?_⟩) (by assumption) ?_
      rotate_left
      · intro X hSw
        have hc0 : X.cell? ⟨(w.heap.size + 1), 0, none⟩ = some (.int .i64 r1) := (Hr_1.out.below hSw).cell 0
        have hc1 : X.cell? ⟨(w.heap.size + 1), 1, none⟩ = some (.int .i64 r2) := (Hr_1.out.below hSw).cell 1
        have hc2 : X.cell? ⟨(w.heap.size + 1), 2, none⟩ = some (.int .i64 r3) := (Hr_1.out.below hSw).cell 2
        have hc3 : X.cell? ⟨(w.heap.size + 1), 3, none⟩ = some (.int .i64 r4) := (Hr_1.out.below hSw).cell 3
        have hc4 : X.cell? ⟨(w.heap.size + 1), 4, none⟩ = some (.int .i64 r5) := (Hr_1.out.below hSw).cell 4
        have hc5 : X.cell? ⟨(w.heap.size + 1), 5, none⟩ = some (.int .i64 r6) := (Hr_1.out.below hSw).cell 5
        have hc6 : X.cell? ⟨(w.heap.size + 1), 6, none⟩ = some (.int .i64 r7) := (Hr_1.out.below hSw).cell 6
        have hc7 : X.cell? ⟨(w.heap.size + 1), 7, none⟩ = some (.int .i64 r8) := (Hr_1.out.below hSw).cell 7
        have hc8 : X.cell? ⟨(w.heap.size + 1), 8, none⟩ = some (.int .i64 r9) := (Hr_1.out.below hSw).cell 8
        have hc9 : X.cell? ⟨(w.heap.size + 1), 9, none⟩ = some (.string ⟨tx.toArray⟩) := (Hr_1.out.below hSw).cell 9
        have hc10 : X.cell? ⟨(w.heap.size + 1), 10, none⟩ = some (.slice A ls.length cp) := (Hr_1.out.below hSw).cell 10
        go_simp
        try with_reducible rfl
      rotate_left
      try simp only [Act.put, List.setIfInBounds_toArray, List.set_cons_zero, List.set_cons_succ, List.getElem_toArray, List.getElem_cons_zero, List.getElem_cons_succ]
      refine wpAnyH_ready (rs := [12]) (by kernel_rfl) (by simp) ?_
      refine (AllReadyH.cons rfl (fun K hK => ?_) AllReadyH.nil)
      rw [if_pos (by rfl)]
      go_wp2_with fail
      refine (HLG.out _ _ (Rn_1.out.below hHeld)).mono ?_
      rintro e wq2 ⟨rfl, rfl⟩
      refine hK.out _ _ hHeld (fun _ => ?_)
      clear hK K
      try simp only [Act.put, List.setIfInBounds_toArray, List.set_cons_zero, List.set_cons_succ, List.getElem_toArray, List.getElem_cons_zero, List.getElem_cons_succ]
      refine wpAnyH_take (i := 13) (v := ?_) rfl (by kernel_rfl) (by kernel_rfl) (by kernel_rfl) (fun _ _ _ h => h) (Or.inl ⟨by rfl, ?_⟩) (by assumption) ?_
      rotate_left
      · intro X hSw
        go_simp
        try with_reducible rfl
      rotate_left
      try simp only [Act.put, List.setIfInBounds_toArray, List.set_cons_zero, List.set_cons_succ, List.getElem_toArray, List.getElem_cons_zero, List.getElem_cons_succ]
      refine wpAnyH_take (i := 14) (v := .bool false) rfl (by kernel_rfl) (by kernel_rfl) (by kernel_rfl) (fun _ _ _ h => h) (Or.inl ⟨by rfl, ?_⟩) (by assumption) ?_
      · intro X hSw
        go_simp
        rw [HWR.out]
        exact hbig
      try simp only [Act.put, List.setIfInBounds_toArray, List.set_cons_zero, List.set_cons_succ, List.getElem_toArray, List.getElem_cons_zero, List.getElem_cons_succ]
      refine wpAnyH_take (i := 15) (v := ?_) rfl (by kernel_rfl) (by kernel_rfl) (by kernel_rfl) (fun _ _ _ h => h) (Or.inl ⟨by rfl, ?_⟩) (by assumption) ?_
      rotate_left
      · intro X hSw
        go_simp
        try with_reducible rfl
      rotate_left
      try simp only [Act.put, List.setIfInBounds_toArray, List.set_cons_zero, List.set_cons_succ, List.getElem_toArray, List.getElem_cons_zero, List.getElem_cons_succ]
      refine wpAnyH_take (i := 16) (v := ?_) rfl (by kernel_rfl) (by kernel_rfl) (by kernel_rfl) (fun _ _ _ h => h) (Or.inl ⟨by rfl, ?_⟩) (by assumption) ?_
      rotate_left
      · intro X hSw
        go_simp
        try with_reducible rfl
      rotate_left
      try simp only [Act.put, List.setIfInBounds_toArray, List.set_cons_zero, List.set_cons_succ, List.getElem_toArray, List.getElem_cons_zero, List.getElem_cons_succ]
      refine wpAnyH_take (i := 17) (v := ?_) rfl (by kernel_rfl) (by kernel_rfl) (by kernel_rfl) (fun _ _ _ h => h) (Or.inl ⟨by rfl, ?_⟩) (by assumption) ?_
      rotate_left
      · intro X hSw
        go_simp
        try with_reducible rfl
      rotate_left
      try simp only [Act.put, List.setIfInBounds_toArray, List.set_cons_zero, List.set_cons_succ, List.getElem_toArray, List.getElem_cons_zero, List.getElem_cons_succ]
      refine wpAnyH_take (i := 18) (v := ?_) rfl (by kernel_rfl) (by kernel_rfl) (by kernel_rfl) (fun _ _ _ h => h) (Or.inl ⟨by rfl, ?_⟩) (by assumption) ?_
      rotate_left
      · intro X hSw
        go_simp
        try with_reducible rfl
      rotate_left
      try simp only [Act.put, List.setIfInBounds_toArray, List.set_cons_zero, List.set_cons_succ, List.getElem_toArray, List.getElem_cons_zero, List.getElem_cons_succ]
      refine wpAnyH_take (i := 19) (v := ?_) rfl (by kernel_rfl) (by kernel_rfl) (by kernel_rfl) (fun _ _ _ h => h) (Or.inl ⟨by rfl, ?_⟩) (by assumption) ?_
      rotate_left
      · intro X hSw
        have hc0 : X.cell? ⟨(w.heap.size + 2), 0, none⟩ = some (.int .i64 q1) := (Hq_1.out.below hSw).cell 0
        have hc1 : X.cell? ⟨(w.heap.size + 2), 1, none⟩ = some (.int .i64 q2) := (Hq_1.out.below hSw).cell 1
        have hc2 : X.cell? ⟨(w.heap.size + 2), 2, none⟩ = some (.int .i64 q3) := (Hq_1.out.below hSw).cell 2
        have hc3 : X.cell? ⟨(w.heap.size + 2), 3, none⟩ = some (.int .i64 q4) := (Hq_1.out.below hSw).cell 3
        have hc4 : X.cell? ⟨(w.heap.size + 2), 4, none⟩ = some (.int .i64 q5) := (Hq_1.out.below hSw).cell 4
        have hc5 : X.cell? ⟨(w.heap.size + 2), 5, none⟩ = some (.int .i64 q6) := (Hq_1.out.below hSw).cell 5
        have hc6 : X.cell? ⟨(w.heap.size + 2), 6, none⟩ = some (.int .i64 q7) := (Hq_1.out.below hSw).cell 6
        have hc7 : X.cell? ⟨(w.heap.size + 2), 7, none⟩ = some (.int .i64 q8) := (Hq_1.out.below hSw).cell 7
        have hc8 : X.cell? ⟨(w.heap.size + 2), 8, none⟩ = some (.int .i64 q9) := (Hq_1.out.below hSw).cell 8
        have hc9 : X.cell? ⟨(w.heap.size + 2), 9, none⟩ = some (.string ⟨ux.toArray⟩) := (Hq_1.out.below hSw).cell 9
        have hc10 : X.cell? ⟨(w.heap.size + 2), 10, none⟩ = some (.slice B ks.length cq) := (Hq_1.out.below hSw).cell 10
        go_simp
        try with_reducible rfl
      rotate_left
      try simp only [Act.put, List.setIfInBounds_toArray, List.set_cons_zero, List.set_cons_succ, List.getElem_toArray, List.getElem_cons_zero, List.getElem_cons_succ]
      refine wpAnyH_ready (rs := [20]) (by kernel_rfl) (by simp) ?_
      refine (AllReadyH.cons rfl (fun K hK => ?_) AllReadyH.nil)
      rw [if_pos (by rfl)]
      go_wp2_with fail
      refine (HKG.out _ _ (Rk_1.out.below hHeld)).mono ?_
      rintro e wq2 ⟨rfl, rfl⟩
      refine hK.out _ _ hHeld (fun _ => ?_)
      clear hK K
      try simp only [Act.put, List.setIfInBounds_toArray, List.set_cons_zero, List.set_cons_succ, List.getElem_toArray, List.getElem_cons_zero, List.getElem_cons_succ]
      refine wpAnyH_take (i := 21) (v := .bool true) rfl (by kernel_rfl) (by kernel_rfl) (by kernel_rfl) (fun _ _ _ h => h) (Or.inl ⟨by rfl, ?_⟩) (by assumption) ?_
      · intro X hSw
        go_simp
        try exact hbik
      try simp only [Act.put, List.setIfInBounds_toArray, List.set_cons_zero, List.set_cons_succ, List.getElem_toArray, List.getElem_cons_zero, List.getElem_cons_succ]
      refine wpAnyH_take (i := 22) (v := ?_) rfl (by kernel_rfl) (by kernel_rfl) (by kernel_rfl) (fun _ _ _ h => h) (Or.inl ⟨by rfl, ?_⟩) (by assumption) ?_
      rotate_left
      · intro X hSw
        go_simp
        try with_reducible rfl
      rotate_left
      try simp only [Act.put, List.setIfInBounds_toArray, List.set_cons_zero, List.set_cons_succ, List.getElem_toArray, List.getElem_cons_zero, List.getElem_cons_succ]
      refine wpAnyH_done (by kernel_rfl) ?_ _
      have Ha_r2 := Lib.hid (Ha_1.out.below hHeld)
      have Hr_r2 := Lib.hid (Hr_1.out.below hHeld)
      have Hq_r2 := Lib.hid (Hq_1.out.below hHeld)
      have Rn_r2 := Lib.hid (Rn_1.out.below hHeld)
      have Rk_r2 := Lib.hid (Rk_1.out.below hHeld)
      have BW_r2 := Lib.hid (below_trans BW_1.out hHeld BW_1.out.size)
      clear hHeld
      go_wp2_with fail
      go_ret
      exact ⟨rfl, BW_r2.out⟩
    have hbik : (K : Int) ≤ 4000 := by omega
    obtain ⟨wu1, hu1⟩ : ∃ u, u = w.alloc (.cells #[.int .i64 m1, .int .i64 m2, .int .i64 m3, .int .i64 m4, .int .i64 m5, .int .i64 m6, .int .i64 k1, .int .i64 k2, .int .i64 k3, .int .i64 k4, .int .i64 k5, .string ⟨t1.toArray⟩, .string ⟨t2.toArray⟩, .string ⟨t3.toArray⟩] 25) := ⟨_, rfl⟩
    have su1 : wu1.heap.size = w.heap.size + 1 := by rw [hu1]; simp
    have tu1 : TBox wu1 (w.heap.size) 25 #[.int .i64 m1, .int .i64 m2, .int .i64 m3, .int .i64 m4, .int .i64 m5, .int .i64 m6, .int .i64 k1, .int .i64 k2, .int .i64 k3, .int .i64 k4, .int .i64 k5, .string ⟨t1.toArray⟩, .string ⟨t2.toArray⟩, .string ⟨t3.toArray⟩] := by rw [hu1]; exact TBox.new _ _ _
    have bu1 : Below w.heap.size w wu1 := by rw [hu1]; exact (Below.refl _ _).alloc (Nat.le_refl _) _
    have BU1 := bu1
    obtain ⟨wu2, hu2⟩ : ∃ u, u = wu1.alloc (.cells #[.int .i64 r1, .int .i64 r2, .int .i64 r3, .int .i64 r4, .int .i64 r5, .int .i64 r6, .int .i64 r7, .int .i64 r8, .int .i64 r9, .string ⟨tx.toArray⟩, .slice A ls.length cp] 31) := ⟨_, rfl⟩
    have su2 : wu2.heap.size = w.heap.size + 2 := by rw [hu2]; simp [su1]
    have tu2 : TBox wu2 (w.heap.size + 1) 31 #[.int .i64 r1, .int .i64 r2, .int .i64 r3, .int .i64 r4, .int .i64 r5, .int .i64 r6, .int .i64 r7, .int .i64 r8, .int .i64 r9, .string ⟨tx.toArray⟩, .slice A ls.length cp] := by rw [hu2, ← su1]; exact TBox.new _ _ _
    have bu2 : Below wu1.heap.size wu1 wu2 := by rw [hu2]; exact (Below.refl _ _).alloc (Nat.le_refl _) _
    have BU2 := below_trans BU1 bu2 BU1.size
    obtain ⟨wu3, hu3⟩ : ∃ u, u = wu2.alloc (.cells #[.int .i64 q1, .int .i64 q2, .int .i64 q3, .int .i64 q4, .int .i64 q5, .int .i64 q6, .int .i64 q7, .int .i64 q8, .int .i64 q9, .string ⟨ux.toArray⟩, .slice B ks.length cq] 31) := ⟨_, rfl⟩
    have su3 : wu3.heap.size = w.heap.size + 3 := by rw [hu3]; simp [su2]
    have tu3 : TBox wu3 (w.heap.size + 2) 31 #[.int .i64 q1, .int .i64 q2, .int .i64 q3, .int .i64 q4, .int .i64 q5, .int .i64 q6, .int .i64 q7, .int .i64 q8, .int .i64 q9, .string ⟨ux.toArray⟩, .slice B ks.length cq] := by rw [hu3, ← su2]; exact TBox.new _ _ _
    have bu3 : Below wu2.heap.size wu2 wu3 := by rw [hu3]; exact (Below.refl _ _).alloc (Nat.le_refl _) _
    have BU3 := below_trans BU2 bu3 BU2.size
    have Ha0 := Lib.hid ((tu1.below bu2).below bu3)
    have Hr0 := Lib.hid (tu2.below bu3)
    have Hq0 := Lib.hid tu3
    have BW_0 := Lib.hid BU3
    have HW : Hid (wu3 = (((w.alloc (.cells #[.int .i64 m1, .int .i64 m2, .int .i64 m3, .int .i64 m4, .int .i64 m5, .int .i64 m6, .int .i64 k1, .int .i64 k2, .int .i64 k3, .int .i64 k4, .int .i64 k5, .string ⟨t1.toArray⟩, .string ⟨t2.toArray⟩, .string ⟨t3.toArray⟩] 25)).alloc (.cells #[.int .i64 r1, .int .i64 r2, .int .i64 r3, .int .i64 r4, .int .i64 r5, .int .i64 r6, .int .i64 r7, .int .i64 r8, .int .i64 r9, .string ⟨tx.toArray⟩, .slice A ls.length cp] 31)).alloc (.cells #[.int .i64 q1, .int .i64 q2, .int .i64 q3, .int .i64 q4, .int .i64 q5, .int .i64 q6, .int .i64 q7, .int .i64 q8, .int .i64 q9, .string ⟨ux.toArray⟩, .slice B ks.length cq] 31))) := Lib.hid (by rw [hu3, hu2, hu1])
    have HSZ := Lib.hid su3
    obtain ⟨W0, hW0⟩ : ∃ u, u = wu3 := ⟨_, rfl⟩
    rw [← hW0] at Ha0 Hr0 Hq0 BW_0 HW HSZ
    clear hW0 hu1 su1 tu1 bu1 BU1 hu2 su2 tu2 bu2 BU2 hu3 su3 tu3 bu3 BU3
    have Rn0 := Lib.hid (hrow.below BW_0.out)
    have Rk0 := Lib.hid (krow.below BW_0.out)
    clear hrow krow
    go_enter Try.func3, Try.ntmps3
    go_wp2_with fail
    rw [← HW.out]
    refine (law_shown _).mono ?_
    rintro e w1 ⟨rfl, hb⟩
    have Ha_1 := Lib.hid (Ha0.out.below hb)
    have Hr_1 := Lib.hid (Hr0.out.below hb)
    have Hq_1 := Lib.hid (Hq0.out.below hb)
    have Rn_1 := Lib.hid (Rn0.out.below hb)
    have Rk_1 := Lib.hid (Rk0.out.below hb)
    have BW_1 := Lib.hid (below_trans BW_0.out hb BW_0.out.size)
    clear hb 
    go_wp2_with fail
    refine wp_region_held_drew (S := fun V => Below w1.heap.size w1 V) (by kernel_rfl) (below_dn (Below.refl _ _) 1) (fun hHeld => ?_)
    refine wpAnyH_take (i := 0) (v := ?_) rfl (by kernel_rfl) (by kernel_rfl) (by kernel_rfl) (fun _ _ _ h => h) (Or.inl ⟨by rfl, ?_⟩) (by assumption) ?_
    rotate_left
    · intro X hSw
      go_simp
      try with_reducible rfl
    rotate_left
    try simp only [Act.put, List.setIfInBounds_toArray, List.set_cons_zero, List.set_cons_succ, List.getElem_toArray, List.getElem_cons_zero, List.getElem_cons_succ]
    refine wpAnyH_take (i := 1) (v := ?_) rfl (by kernel_rfl) (by kernel_rfl) (by kernel_rfl) (fun _ _ _ h => h) (Or.inl ⟨by rfl, ?_⟩) (by assumption) ?_
    rotate_left
    · intro X hSw
      have hc0 : X.cell? ⟨w.heap.size, 0, none⟩ = some (.int .i64 m1) := (Ha_1.out.below hSw).cell 0
      have hc1 : X.cell? ⟨w.heap.size, 1, none⟩ = some (.int .i64 m2) := (Ha_1.out.below hSw).cell 1
      have hc2 : X.cell? ⟨w.heap.size, 2, none⟩ = some (.int .i64 m3) := (Ha_1.out.below hSw).cell 2
      have hc3 : X.cell? ⟨w.heap.size, 3, none⟩ = some (.int .i64 m4) := (Ha_1.out.below hSw).cell 3
      have hc4 : X.cell? ⟨w.heap.size, 4, none⟩ = some (.int .i64 m5) := (Ha_1.out.below hSw).cell 4
      have hc5 : X.cell? ⟨w.heap.size, 5, none⟩ = some (.int .i64 m6) := (Ha_1.out.below hSw).cell 5
      have hc6 : X.cell? ⟨w.heap.size, 6, none⟩ = some (.int .i64 k1) := (Ha_1.out.below hSw).cell 6
      have hc7 : X.cell? ⟨w.heap.size, 7, none⟩ = some (.int .i64 k2) := (Ha_1.out.below hSw).cell 7
      have hc8 : X.cell? ⟨w.heap.size, 8, none⟩ = some (.int .i64 k3) := (Ha_1.out.below hSw).cell 8
      have hc9 : X.cell? ⟨w.heap.size, 9, none⟩ = some (.int .i64 k4) := (Ha_1.out.below hSw).cell 9
      have hc10 : X.cell? ⟨w.heap.size, 10, none⟩ = some (.int .i64 k5) := (Ha_1.out.below hSw).cell 10
      have hc11 : X.cell? ⟨w.heap.size, 11, none⟩ = some (.string ⟨t1.toArray⟩) := (Ha_1.out.below hSw).cell 11
      have hc12 : X.cell? ⟨w.heap.size, 12, none⟩ = some (.string ⟨t2.toArray⟩) := (Ha_1.out.below hSw).cell 12
      have hc13 : X.cell? ⟨w.heap.size, 13, none⟩ = some (.string ⟨t3.toArray⟩) := (Ha_1.out.below hSw).cell 13
      go_simp
      try with_reducible rfl
    rotate_left
    try simp only [Act.put, List.setIfInBounds_toArray, List.set_cons_zero, List.set_cons_succ, List.getElem_toArray, List.getElem_cons_zero, List.getElem_cons_succ]
    refine wpAnyH_ready (rs := [2]) (by kernel_rfl) (by simp) ?_
    refine (AllReadyH.cons rfl (fun K hK => ?_) AllReadyH.nil)
    rw [if_pos (by rfl)]
    go_wp2_with fail
    refine (HSH.out _).mono ?_
    rintro e wq ⟨rfl, hb⟩
    replace hHeld := below_trans hHeld hb (Below.size hHeld)
    rw [HA.out]
    clear hb
    refine hK.out _ _ hHeld (fun _ => ?_)
    clear hK K
    try simp only [Act.put, List.setIfInBounds_toArray, List.set_cons_zero, List.set_cons_succ, List.getElem_toArray, List.getElem_cons_zero, List.getElem_cons_succ]
    refine wpAnyH_take (i := 3) (v := ?_) rfl (by kernel_rfl) (by kernel_rfl) (by kernel_rfl) (fun _ _ _ h => h) (Or.inl ⟨by rfl, ?_⟩) (by assumption) ?_
    rotate_left
    · intro X hSw
      go_simp
      try with_reducible rfl
    rotate_left
    try simp only [Act.put, List.setIfInBounds_toArray, List.set_cons_zero, List.set_cons_succ, List.getElem_toArray, List.getElem_cons_zero, List.getElem_cons_succ]
    refine wpAnyH_take (i := 4) (v := ?_) rfl (by kernel_rfl) (by kernel_rfl) (by kernel_rfl) (fun _ _ _ h => h) (Or.inl ⟨by rfl, ?_⟩) (by assumption) ?_
    rotate_left
    · intro X hSw
      go_simp
      try with_reducible rfl
    rotate_left
    try simp only [Act.put, List.setIfInBounds_toArray, List.set_cons_zero, List.set_cons_succ, List.getElem_toArray, List.getElem_cons_zero, List.getElem_cons_succ]
    refine wpAnyH_take (i := 5) (v := ?_) rfl (by kernel_rfl) (by kernel_rfl) (by kernel_rfl) (fun _ _ _ h => h) (Or.inl ⟨by rfl, ?_⟩) (by assumption) ?_
    rotate_left
    · intro X hSw
      go_simp
      try with_reducible rfl
    rotate_left
    try simp only [Act.put, List.setIfInBounds_toArray, List.set_cons_zero, List.set_cons_succ, List.getElem_toArray, List.getElem_cons_zero, List.getElem_cons_succ]
    refine wpAnyH_take (i := 6) (v := ?_) rfl (by kernel_rfl) (by kernel_rfl) (by kernel_rfl) (fun _ _ _ h => h) (Or.inl ⟨by rfl, ?_⟩) (by assumption) ?_
    rotate_left
    · intro X hSw
      go_simp
      try with_reducible rfl
    rotate_left
    try simp only [Act.put, List.setIfInBounds_toArray, List.set_cons_zero, List.set_cons_succ, List.getElem_toArray, List.getElem_cons_zero, List.getElem_cons_succ]
    refine wpAnyH_take (i := 7) (v := ?_) rfl (by kernel_rfl) (by kernel_rfl) (by kernel_rfl) (fun _ _ _ h => h) (Or.inl ⟨by rfl, ?_⟩) (by assumption) ?_
    rotate_left
    · intro X hSw
      have hc0 : X.cell? ⟨(w.heap.size + 1), 0, none⟩ = some (.int .i64 r1) := (Hr_1.out.below hSw).cell 0
      have hc1 : X.cell? ⟨(w.heap.size + 1), 1, none⟩ = some (.int .i64 r2) := (Hr_1.out.below hSw).cell 1
      have hc2 : X.cell? ⟨(w.heap.size + 1), 2, none⟩ = some (.int .i64 r3) := (Hr_1.out.below hSw).cell 2
      have hc3 : X.cell? ⟨(w.heap.size + 1), 3, none⟩ = some (.int .i64 r4) := (Hr_1.out.below hSw).cell 3
      have hc4 : X.cell? ⟨(w.heap.size + 1), 4, none⟩ = some (.int .i64 r5) := (Hr_1.out.below hSw).cell 4
      have hc5 : X.cell? ⟨(w.heap.size + 1), 5, none⟩ = some (.int .i64 r6) := (Hr_1.out.below hSw).cell 5
      have hc6 : X.cell? ⟨(w.heap.size + 1), 6, none⟩ = some (.int .i64 r7) := (Hr_1.out.below hSw).cell 6
      have hc7 : X.cell? ⟨(w.heap.size + 1), 7, none⟩ = some (.int .i64 r8) := (Hr_1.out.below hSw).cell 7
      have hc8 : X.cell? ⟨(w.heap.size + 1), 8, none⟩ = some (.int .i64 r9) := (Hr_1.out.below hSw).cell 8
      have hc9 : X.cell? ⟨(w.heap.size + 1), 9, none⟩ = some (.string ⟨tx.toArray⟩) := (Hr_1.out.below hSw).cell 9
      have hc10 : X.cell? ⟨(w.heap.size + 1), 10, none⟩ = some (.slice A ls.length cp) := (Hr_1.out.below hSw).cell 10
      go_simp
      try with_reducible rfl
    rotate_left
    try simp only [Act.put, List.setIfInBounds_toArray, List.set_cons_zero, List.set_cons_succ, List.getElem_toArray, List.getElem_cons_zero, List.getElem_cons_succ]
    refine wpAnyH_take (i := 8) (v := ?_) rfl (by kernel_rfl) (by kernel_rfl) (by kernel_rfl) (fun _ _ _ h => h) (Or.inl ⟨by rfl, ?_⟩) (by assumption) ?_
    rotate_left
    · intro X hSw
      go_simp
      try with_reducible rfl
    rotate_left
    try simp only [Act.put, List.setIfInBounds_toArray, List.set_cons_zero, List.set_cons_succ, List.getElem_toArray, List.getElem_cons_zero, List.getElem_cons_succ]
    refine wpAnyH_take (i := 9) (v := ?_) rfl (by kernel_rfl) (by kernel_rfl) (by kernel_rfl) (fun _ _ _ h => h) (Or.inl ⟨by rfl, ?_⟩) (by assumption) ?_
    rotate_left
    · intro X hSw
      go_simp
      try with_reducible rfl
    rotate_left
    try simp only [Act.put, List.setIfInBounds_toArray, List.set_cons_zero, List.set_cons_succ, List.getElem_toArray, List.getElem_cons_zero, List.getElem_cons_succ]
    refine wpAnyH_take (i := 10) (v := ?_) rfl (by kernel_rfl) (by kernel_rfl) (by kernel_rfl) (fun _ _ _ h => h) (Or.inl ⟨by rfl, ?_⟩) (by assumption) ?_
    rotate_left
    · intro X hSw
      go_simp
      try with_reducible rfl
    rotate_left
    try simp only [Act.put, List.setIfInBounds_toArray, List.set_cons_zero, List.set_cons_succ, List.getElem_toArray, List.getElem_cons_zero, List.getElem_cons_succ]
    refine wpAnyH_take (i := 11) (v := ?_) rfl (by kernel_rfl) (by kernel_rfl) (by kernel_rfl) (fun _ _ _ h => h) (Or.inl ⟨by rfl, ?_⟩) (by assumption) ?_
    rotate_left
    · intro X hSw
      have hc0 : X.cell? ⟨(w.heap.size + 1), 0, none⟩ = some (.int .i64 r1) := (Hr_1.out.below hSw).cell 0
      have hc1 : X.cell? ⟨(w.heap.size + 1), 1, none⟩ = some (.int .i64 r2) := (Hr_1.out.below hSw).cell 1
      have hc2 : X.cell? ⟨(w.heap.size + 1), 2, none⟩ = some (.int .i64 r3) := (Hr_1.out.below hSw).cell 2
      have hc3 : X.cell? ⟨(w.heap.size + 1), 3, none⟩ = some (.int .i64 r4) := (Hr_1.out.below hSw).cell 3
      have hc4 : X.cell? ⟨(w.heap.size + 1), 4, none⟩ = some (.int .i64 r5) := (Hr_1.out.below hSw).cell 4
      have hc5 : X.cell? ⟨(w.heap.size + 1), 5, none⟩ = some (.int .i64 r6) := (Hr_1.out.below hSw).cell 5
      have hc6 : X.cell? ⟨(w.heap.size + 1), 6, none⟩ = some (.int .i64 r7) := (Hr_1.out.below hSw).cell 6
      have hc7 : X.cell? ⟨(w.heap.size + 1), 7, none⟩ = some (.int .i64 r8) := (Hr_1.out.below hSw).cell 7
      have hc8 : X.cell? ⟨(w.heap.size + 1), 8, none⟩ = some (.int .i64 r9) := (Hr_1.out.below hSw).cell 8
      have hc9 : X.cell? ⟨(w.heap.size + 1), 9, none⟩ = some (.string ⟨tx.toArray⟩) := (Hr_1.out.below hSw).cell 9
      have hc10 : X.cell? ⟨(w.heap.size + 1), 10, none⟩ = some (.slice A ls.length cp) := (Hr_1.out.below hSw).cell 10
      go_simp
      try with_reducible rfl
    rotate_left
    try simp only [Act.put, List.setIfInBounds_toArray, List.set_cons_zero, List.set_cons_succ, List.getElem_toArray, List.getElem_cons_zero, List.getElem_cons_succ]
    refine wpAnyH_ready (rs := [12]) (by kernel_rfl) (by simp) ?_
    refine (AllReadyH.cons rfl (fun K hK => ?_) AllReadyH.nil)
    rw [if_pos (by rfl)]
    go_wp2_with fail
    refine (HLG.out _ _ (Rn_1.out.below hHeld)).mono ?_
    rintro e wq2 ⟨rfl, rfl⟩
    refine hK.out _ _ hHeld (fun _ => ?_)
    clear hK K
    try simp only [Act.put, List.setIfInBounds_toArray, List.set_cons_zero, List.set_cons_succ, List.getElem_toArray, List.getElem_cons_zero, List.getElem_cons_succ]
    refine wpAnyH_take (i := 13) (v := ?_) rfl (by kernel_rfl) (by kernel_rfl) (by kernel_rfl) (fun _ _ _ h => h) (Or.inl ⟨by rfl, ?_⟩) (by assumption) ?_
    rotate_left
    · intro X hSw
      go_simp
      try with_reducible rfl
    rotate_left
    try simp only [Act.put, List.setIfInBounds_toArray, List.set_cons_zero, List.set_cons_succ, List.getElem_toArray, List.getElem_cons_zero, List.getElem_cons_succ]
    refine wpAnyH_take (i := 14) (v := .bool false) rfl (by kernel_rfl) (by kernel_rfl) (by kernel_rfl) (fun _ _ _ h => h) (Or.inl ⟨by rfl, ?_⟩) (by assumption) ?_
    · intro X hSw
      go_simp
      rw [HWR.out]
      exact hbig
    try simp only [Act.put, List.setIfInBounds_toArray, List.set_cons_zero, List.set_cons_succ, List.getElem_toArray, List.getElem_cons_zero, List.getElem_cons_succ]
    refine wpAnyH_take (i := 15) (v := ?_) rfl (by kernel_rfl) (by kernel_rfl) (by kernel_rfl) (fun _ _ _ h => h) (Or.inl ⟨by rfl, ?_⟩) (by assumption) ?_
    rotate_left
    · intro X hSw
      go_simp
      try with_reducible rfl
    rotate_left
    try simp only [Act.put, List.setIfInBounds_toArray, List.set_cons_zero, List.set_cons_succ, List.getElem_toArray, List.getElem_cons_zero, List.getElem_cons_succ]
    refine wpAnyH_take (i := 16) (v := ?_) rfl (by kernel_rfl) (by kernel_rfl) (by kernel_rfl) (fun _ _ _ h => h) (Or.inl ⟨by rfl, ?_⟩) (by assumption) ?_
    rotate_left
    · intro X hSw
      go_simp
      try with_reducible rfl
    rotate_left
    try simp only [Act.put, List.setIfInBounds_toArray, List.set_cons_zero, List.set_cons_succ, List.getElem_toArray, List.getElem_cons_zero, List.getElem_cons_succ]
    refine wpAnyH_take (i := 17) (v := ?_) rfl (by kernel_rfl) (by kernel_rfl) (by kernel_rfl) (fun _ _ _ h => h) (Or.inl ⟨by rfl, ?_⟩) (by assumption) ?_
    rotate_left
    · intro X hSw
      go_simp
      try with_reducible rfl
    rotate_left
    try simp only [Act.put, List.setIfInBounds_toArray, List.set_cons_zero, List.set_cons_succ, List.getElem_toArray, List.getElem_cons_zero, List.getElem_cons_succ]
    refine wpAnyH_take (i := 18) (v := ?_) rfl (by kernel_rfl) (by kernel_rfl) (by kernel_rfl) (fun _ _ _ h => h) (Or.inl ⟨by rfl, ?_⟩) (by assumption) ?_
    rotate_left
    · intro X hSw
      go_simp
      try with_reducible rfl
    rotate_left
    try simp only [Act.put, List.setIfInBounds_toArray, List.set_cons_zero, List.set_cons_succ, List.getElem_toArray, List.getElem_cons_zero, List.getElem_cons_succ]
    refine wpAnyH_take (i := 19) (v := ?_) rfl (by kernel_rfl) (by kernel_rfl) (by kernel_rfl) (fun _ _ _ h => h) (Or.inl ⟨by rfl, ?_⟩) (by assumption) ?_
    rotate_left
    · intro X hSw
      have hc0 : X.cell? ⟨(w.heap.size + 2), 0, none⟩ = some (.int .i64 q1) := (Hq_1.out.below hSw).cell 0
      have hc1 : X.cell? ⟨(w.heap.size + 2), 1, none⟩ = some (.int .i64 q2) := (Hq_1.out.below hSw).cell 1
      have hc2 : X.cell? ⟨(w.heap.size + 2), 2, none⟩ = some (.int .i64 q3) := (Hq_1.out.below hSw).cell 2
      have hc3 : X.cell? ⟨(w.heap.size + 2), 3, none⟩ = some (.int .i64 q4) := (Hq_1.out.below hSw).cell 3
      have hc4 : X.cell? ⟨(w.heap.size + 2), 4, none⟩ = some (.int .i64 q5) := (Hq_1.out.below hSw).cell 4
      have hc5 : X.cell? ⟨(w.heap.size + 2), 5, none⟩ = some (.int .i64 q6) := (Hq_1.out.below hSw).cell 5
      have hc6 : X.cell? ⟨(w.heap.size + 2), 6, none⟩ = some (.int .i64 q7) := (Hq_1.out.below hSw).cell 6
      have hc7 : X.cell? ⟨(w.heap.size + 2), 7, none⟩ = some (.int .i64 q8) := (Hq_1.out.below hSw).cell 7
      have hc8 : X.cell? ⟨(w.heap.size + 2), 8, none⟩ = some (.int .i64 q9) := (Hq_1.out.below hSw).cell 8
      have hc9 : X.cell? ⟨(w.heap.size + 2), 9, none⟩ = some (.string ⟨ux.toArray⟩) := (Hq_1.out.below hSw).cell 9
      have hc10 : X.cell? ⟨(w.heap.size + 2), 10, none⟩ = some (.slice B ks.length cq) := (Hq_1.out.below hSw).cell 10
      go_simp
      try with_reducible rfl
    rotate_left
    try simp only [Act.put, List.setIfInBounds_toArray, List.set_cons_zero, List.set_cons_succ, List.getElem_toArray, List.getElem_cons_zero, List.getElem_cons_succ]
    refine wpAnyH_ready (rs := [20]) (by kernel_rfl) (by simp) ?_
    refine (AllReadyH.cons rfl (fun K hK => ?_) AllReadyH.nil)
    rw [if_pos (by rfl)]
    go_wp2_with fail
    refine (HKG.out _ _ (Rk_1.out.below hHeld)).mono ?_
    rintro e wq2 ⟨rfl, rfl⟩
    refine hK.out _ _ hHeld (fun _ => ?_)
    clear hK K
    try simp only [Act.put, List.setIfInBounds_toArray, List.set_cons_zero, List.set_cons_succ, List.getElem_toArray, List.getElem_cons_zero, List.getElem_cons_succ]
    refine wpAnyH_take (i := 21) (v := .bool false) rfl (by kernel_rfl) (by kernel_rfl) (by kernel_rfl) (fun _ _ _ h => h) (Or.inl ⟨by rfl, ?_⟩) (by assumption) ?_
    · intro X hSw
      go_simp
      try exact hbik
    try simp only [Act.put, List.setIfInBounds_toArray, List.set_cons_zero, List.set_cons_succ, List.getElem_toArray, List.getElem_cons_zero, List.getElem_cons_succ]
    refine wpAnyH_take (i := 22) (v := ?_) rfl (by kernel_rfl) (by kernel_rfl) (by kernel_rfl) (fun _ _ _ h => h) (Or.inl ⟨by rfl, ?_⟩) (by assumption) ?_
    rotate_left
    · intro X hSw
      go_simp
      try with_reducible rfl
    rotate_left
    try simp only [Act.put, List.setIfInBounds_toArray, List.set_cons_zero, List.set_cons_succ, List.getElem_toArray, List.getElem_cons_zero, List.getElem_cons_succ]
    refine wpAnyH_done (by kernel_rfl) ?_ _
    have Ha_r2 := Lib.hid (Ha_1.out.below hHeld)
    have Hr_r2 := Lib.hid (Hr_1.out.below hHeld)
    have Hq_r2 := Lib.hid (Hq_1.out.below hHeld)
    have Rn_r2 := Lib.hid (Rn_1.out.below hHeld)
    have Rk_r2 := Lib.hid (Rk_1.out.below hHeld)
    have BW_r2 := Lib.hid (below_trans BW_1.out hHeld BW_1.out.size)
    clear hHeld
    have oc := hok hsa
    have oc9 := oc.mono (n := 1000000000) (by decide)
    have okm : OkM 1000000000 ⟨m1, m2, m3, m4, m5, m6, ⟨k1, k2, k3, k4, k5, t1, t2, t3⟩⟩ := ⟨HI.out.1, oc9⟩
    have okr2 : OkR 1000000000 ⟨r1, r2, r3, r4, r5, r6, r7, r8, r9, tx, ls⟩ := ⟨HI.out.2, by simp only; omega, by have := HLN.out; simp only; omega⟩
    have HC1 := Lib.hid (fun W => wire_Call ⟨k1, k2, k3, k4, k5, t1, t2, t3⟩ W oc9)
    have HC2 := Lib.hid (fun W => ref15_Call ⟨k1, k2, k3, k4, k5, t1, t2, t3⟩ W oc9)
    have HM1 := Lib.hid (fun W => wire_Msg ⟨m1, m2, m3, m4, m5, m6, ⟨k1, k2, k3, k4, k5, t1, t2, t3⟩⟩ W okm)
    have HM2 := Lib.hid (fun W => ref15_Msg ⟨m1, m2, m3, m4, m5, m6, ⟨k1, k2, k3, k4, k5, t1, t2, t3⟩⟩ W okm)
    have HR1 := Lib.hid (fun W v hv => wire_Rsp ⟨r1, r2, r3, r4, r5, r6, r7, r8, r9, tx, ls⟩ v W hv okr2)
    have HR2 := Lib.hid (fun W v hv => ref15_Rsp ⟨r1, r2, r3, r4, r5, r6, r7, r8, r9, tx, ls⟩ v W hv okr2)
    have hl1 : ls.length ≤ 2147483648 := by have := HLN.out; omega
    have hl2 : ks.length ≤ 2147483648 := by have := HKN.out; omega
    have HS1 := Lib.hid (fun vx vy W hx hy => wire_Same ⟨r1, r2, r3, r4, r5, r6, r7, r8, r9, tx, ls⟩ ⟨q1, q2, q3, q4, q5, q6, q7, q8, q9, ux, ks⟩ vx vy W hx hy hl1 hl2)
    have HS2 := Lib.hid (fun vx vy W hx hy => ref15_Same ⟨r1, r2, r3, r4, r5, r6, r7, r8, r9, tx, ls⟩ ⟨q1, q2, q3, q4, q5, q6, q7, q8, q9, ux, ks⟩ vx vy W hx hy hl1 hl2)
    generalize callB ⟨k1, k2, k3, k4, k5, t1, t2, t3⟩ = CB at *
    generalize msgB ⟨m1, m2, m3, m4, m5, m6, ⟨k1, k2, k3, k4, k5, t1, t2, t3⟩⟩ = MB at *
    generalize rspB ⟨r1, r2, r3, r4, r5, r6, r7, r8, r9, tx, ls⟩ = RB at *
    generalize sameR ⟨r1, r2, r3, r4, r5, r6, r7, r8, r9, tx, ls⟩ ⟨q1, q2, q3, q4, q5, q6, q7, q8, q9, ux, ks⟩ = br at *
    unfold RspV at HR1 HR2 HS1 HS2
    simp only [msgV, msgCells, rspCells, callV] at HC1 HC2 HM1 HM2 HR1 HR2 HS1 HS2
    clear oc oc9 okm okr2 hok hsa
    go_wp2_with fail
    refine wp_region_held_drew (S := fun V => Below wq.heap.size wq V) (by kernel_rfl) (below_dn (Below.refl _ _) 1) (fun hHeld => ?_)
    refine wpAnyH_take (i := 0) (v := ?_) rfl (by kernel_rfl) (by kernel_rfl) (by kernel_rfl) (fun _ _ _ h => h) (Or.inl ⟨by rfl, ?_⟩) (by assumption) ?_
    rotate_left
    · intro X hSw
      go_simp
      try with_reducible rfl
    rotate_left
    try simp only [Act.put, List.setIfInBounds_toArray, List.set_cons_zero, List.set_cons_succ, List.getElem_toArray, List.getElem_cons_zero, List.getElem_cons_succ]
    refine wpAnyH_take (i := 1) (v := ?_) rfl (by kernel_rfl) (by kernel_rfl) (by kernel_rfl) (fun _ _ _ h => h) (Or.inl ⟨by rfl, ?_⟩) (by assumption) ?_
    rotate_left
    · intro X hSw
      go_simp
      try with_reducible rfl
    rotate_left
    try simp only [Act.put, List.setIfInBounds_toArray, List.set_cons_zero, List.set_cons_succ, List.getElem_toArray, List.getElem_cons_zero, List.getElem_cons_succ]
    refine wpAnyH_take (i := 2) (v := ?_) rfl (by kernel_rfl) (by kernel_rfl) (by kernel_rfl) (fun _ _ _ h => h) (Or.inl ⟨by rfl, ?_⟩) (by assumption) ?_
    rotate_left
    · intro X hSw
      go_simp
      try with_reducible rfl
    rotate_left
    try simp only [Act.put, List.setIfInBounds_toArray, List.set_cons_zero, List.set_cons_succ, List.getElem_toArray, List.getElem_cons_zero, List.getElem_cons_succ]
    refine wpAnyH_take (i := 3) (v := ?_) rfl (by kernel_rfl) (by kernel_rfl) (by kernel_rfl) (fun _ _ _ h => h) (Or.inl ⟨by rfl, ?_⟩) (by assumption) ?_
    rotate_left
    · intro X hSw
      have hc0 : X.cell? ⟨w.heap.size, 0, none⟩ = some (.int .i64 m1) := (Ha_r2.out.below hSw).cell 0
      have hc1 : X.cell? ⟨w.heap.size, 1, none⟩ = some (.int .i64 m2) := (Ha_r2.out.below hSw).cell 1
      have hc2 : X.cell? ⟨w.heap.size, 2, none⟩ = some (.int .i64 m3) := (Ha_r2.out.below hSw).cell 2
      have hc3 : X.cell? ⟨w.heap.size, 3, none⟩ = some (.int .i64 m4) := (Ha_r2.out.below hSw).cell 3
      have hc4 : X.cell? ⟨w.heap.size, 4, none⟩ = some (.int .i64 m5) := (Ha_r2.out.below hSw).cell 4
      have hc5 : X.cell? ⟨w.heap.size, 5, none⟩ = some (.int .i64 m6) := (Ha_r2.out.below hSw).cell 5
      have hc6 : X.cell? ⟨w.heap.size, 6, none⟩ = some (.int .i64 k1) := (Ha_r2.out.below hSw).cell 6
      have hc7 : X.cell? ⟨w.heap.size, 7, none⟩ = some (.int .i64 k2) := (Ha_r2.out.below hSw).cell 7
      have hc8 : X.cell? ⟨w.heap.size, 8, none⟩ = some (.int .i64 k3) := (Ha_r2.out.below hSw).cell 8
      have hc9 : X.cell? ⟨w.heap.size, 9, none⟩ = some (.int .i64 k4) := (Ha_r2.out.below hSw).cell 9
      have hc10 : X.cell? ⟨w.heap.size, 10, none⟩ = some (.int .i64 k5) := (Ha_r2.out.below hSw).cell 10
      have hc11 : X.cell? ⟨w.heap.size, 11, none⟩ = some (.string ⟨t1.toArray⟩) := (Ha_r2.out.below hSw).cell 11
      have hc12 : X.cell? ⟨w.heap.size, 12, none⟩ = some (.string ⟨t2.toArray⟩) := (Ha_r2.out.below hSw).cell 12
      have hc13 : X.cell? ⟨w.heap.size, 13, none⟩ = some (.string ⟨t3.toArray⟩) := (Ha_r2.out.below hSw).cell 13
      go_simp
      try with_reducible rfl
    rotate_left
    try simp only [Act.put, List.setIfInBounds_toArray, List.set_cons_zero, List.set_cons_succ, List.getElem_toArray, List.getElem_cons_zero, List.getElem_cons_succ]
    refine wpAnyH_take (i := 5) (v := ?_) rfl (by kernel_rfl) (by kernel_rfl) (by kernel_rfl) (fun _ _ _ h => h) (Or.inl ⟨by rfl, ?_⟩) (by assumption) ?_
    rotate_left
    · intro X hSw
      go_simp
      try with_reducible rfl
    rotate_left
    try simp only [Act.put, List.setIfInBounds_toArray, List.set_cons_zero, List.set_cons_succ, List.getElem_toArray, List.getElem_cons_zero, List.getElem_cons_succ]
    refine wpAnyH_take (i := 6) (v := ?_) rfl (by kernel_rfl) (by kernel_rfl) (by kernel_rfl) (fun _ _ _ h => h) (Or.inl ⟨by rfl, ?_⟩) (by assumption) ?_
    rotate_left
    · intro X hSw
      have hc0 : X.cell? ⟨w.heap.size, 0, none⟩ = some (.int .i64 m1) := (Ha_r2.out.below hSw).cell 0
      have hc1 : X.cell? ⟨w.heap.size, 1, none⟩ = some (.int .i64 m2) := (Ha_r2.out.below hSw).cell 1
      have hc2 : X.cell? ⟨w.heap.size, 2, none⟩ = some (.int .i64 m3) := (Ha_r2.out.below hSw).cell 2
      have hc3 : X.cell? ⟨w.heap.size, 3, none⟩ = some (.int .i64 m4) := (Ha_r2.out.below hSw).cell 3
      have hc4 : X.cell? ⟨w.heap.size, 4, none⟩ = some (.int .i64 m5) := (Ha_r2.out.below hSw).cell 4
      have hc5 : X.cell? ⟨w.heap.size, 5, none⟩ = some (.int .i64 m6) := (Ha_r2.out.below hSw).cell 5
      have hc6 : X.cell? ⟨w.heap.size, 6, none⟩ = some (.int .i64 k1) := (Ha_r2.out.below hSw).cell 6
      have hc7 : X.cell? ⟨w.heap.size, 7, none⟩ = some (.int .i64 k2) := (Ha_r2.out.below hSw).cell 7
      have hc8 : X.cell? ⟨w.heap.size, 8, none⟩ = some (.int .i64 k3) := (Ha_r2.out.below hSw).cell 8
      have hc9 : X.cell? ⟨w.heap.size, 9, none⟩ = some (.int .i64 k4) := (Ha_r2.out.below hSw).cell 9
      have hc10 : X.cell? ⟨w.heap.size, 10, none⟩ = some (.int .i64 k5) := (Ha_r2.out.below hSw).cell 10
      have hc11 : X.cell? ⟨w.heap.size, 11, none⟩ = some (.string ⟨t1.toArray⟩) := (Ha_r2.out.below hSw).cell 11
      have hc12 : X.cell? ⟨w.heap.size, 12, none⟩ = some (.string ⟨t2.toArray⟩) := (Ha_r2.out.below hSw).cell 12
      have hc13 : X.cell? ⟨w.heap.size, 13, none⟩ = some (.string ⟨t3.toArray⟩) := (Ha_r2.out.below hSw).cell 13
      go_simp
      try with_reducible rfl
    rotate_left
    try simp only [Act.put, List.setIfInBounds_toArray, List.set_cons_zero, List.set_cons_succ, List.getElem_toArray, List.getElem_cons_zero, List.getElem_cons_succ]
    refine wpAnyH_ready (rs := [4]) (by kernel_rfl) (by simp) ?_
    refine (AllReadyH.cons rfl (fun K hK => ?_) AllReadyH.nil)
    rw [if_pos (by rfl)]
    go_wp2_with fail
    refine (HC1.out _).mono ?_
    rintro e wz ⟨rfl, hb⟩
    replace hHeld := below_trans hHeld hb (Below.size hHeld)
    clear hb
    refine hK.out _ _ hHeld (fun _ => ?_)
    clear hK K
    try simp only [Act.put, List.setIfInBounds_toArray, List.set_cons_zero, List.set_cons_succ, List.getElem_toArray, List.getElem_cons_zero, List.getElem_cons_succ]
    refine wpAnyH_ready (rs := [7]) (by kernel_rfl) (by simp) ?_
    refine (AllReadyH.cons rfl (fun K hK => ?_) AllReadyH.nil)
    rw [if_pos (by rfl)]
    go_wp2_with fail
    refine (HC2.out _).mono ?_
    rintro e wz ⟨rfl, hb⟩
    replace hHeld := below_trans hHeld hb (Below.size hHeld)
    clear hb
    refine hK.out _ _ hHeld (fun _ => ?_)
    clear hK K
    try simp only [Act.put, List.setIfInBounds_toArray, List.set_cons_zero, List.set_cons_succ, List.getElem_toArray, List.getElem_cons_zero, List.getElem_cons_succ]
    refine wpAnyH_take (i := 8) (v := ?_) rfl (by kernel_rfl) (by kernel_rfl) (by kernel_rfl) (fun _ _ _ h => h) (Or.inl ⟨by rfl, ?_⟩) (by assumption) ?_
    rotate_left
    · intro X hSw
      go_simp
      try with_reducible rfl
    rotate_left
    try simp only [Act.put, List.setIfInBounds_toArray, List.set_cons_zero, List.set_cons_succ, List.getElem_toArray, List.getElem_cons_zero, List.getElem_cons_succ]
    refine wpAnyH_take (i := 9) (v := ?_) rfl (by kernel_rfl) (by kernel_rfl) (by kernel_rfl) (fun _ _ _ h => h) (Or.inl ⟨by rfl, ?_⟩) (by assumption) ?_
    rotate_left
    · intro X hSw
      go_simp
      try with_reducible rfl
    rotate_left
    try simp only [Act.put, List.setIfInBounds_toArray, List.set_cons_zero, List.set_cons_succ, List.getElem_toArray, List.getElem_cons_zero, List.getElem_cons_succ]
    refine wpAnyH_take (i := 10) (v := ?_) rfl (by kernel_rfl) (by kernel_rfl) (by kernel_rfl) (fun _ _ _ h => h) (Or.inl ⟨by rfl, ?_⟩) (by assumption) ?_
    rotate_left
    · intro X hSw
      go_simp
      try with_reducible rfl
    rotate_left
    try simp only [Act.put, List.setIfInBounds_toArray, List.set_cons_zero, List.set_cons_succ, List.getElem_toArray, List.getElem_cons_zero, List.getElem_cons_succ]
    refine wpAnyH_take (i := 11) (v := ?_) rfl (by kernel_rfl) (by kernel_rfl) (by kernel_rfl) (fun _ _ _ h => h) (Or.inl ⟨by rfl, ?_⟩) (by assumption) ?_
    rotate_left
    · intro X hSw
      have hc0 : X.cell? ⟨w.heap.size, 0, none⟩ = some (.int .i64 m1) := (Ha_r2.out.below hSw).cell 0
      have hc1 : X.cell? ⟨w.heap.size, 1, none⟩ = some (.int .i64 m2) := (Ha_r2.out.below hSw).cell 1
      have hc2 : X.cell? ⟨w.heap.size, 2, none⟩ = some (.int .i64 m3) := (Ha_r2.out.below hSw).cell 2
      have hc3 : X.cell? ⟨w.heap.size, 3, none⟩ = some (.int .i64 m4) := (Ha_r2.out.below hSw).cell 3
      have hc4 : X.cell? ⟨w.heap.size, 4, none⟩ = some (.int .i64 m5) := (Ha_r2.out.below hSw).cell 4
      have hc5 : X.cell? ⟨w.heap.size, 5, none⟩ = some (.int .i64 m6) := (Ha_r2.out.below hSw).cell 5
      have hc6 : X.cell? ⟨w.heap.size, 6, none⟩ = some (.int .i64 k1) := (Ha_r2.out.below hSw).cell 6
      have hc7 : X.cell? ⟨w.heap.size, 7, none⟩ = some (.int .i64 k2) := (Ha_r2.out.below hSw).cell 7
      have hc8 : X.cell? ⟨w.heap.size, 8, none⟩ = some (.int .i64 k3) := (Ha_r2.out.below hSw).cell 8
      have hc9 : X.cell? ⟨w.heap.size, 9, none⟩ = some (.int .i64 k4) := (Ha_r2.out.below hSw).cell 9
      have hc10 : X.cell? ⟨w.heap.size, 10, none⟩ = some (.int .i64 k5) := (Ha_r2.out.below hSw).cell 10
      have hc11 : X.cell? ⟨w.heap.size, 11, none⟩ = some (.string ⟨t1.toArray⟩) := (Ha_r2.out.below hSw).cell 11
      have hc12 : X.cell? ⟨w.heap.size, 12, none⟩ = some (.string ⟨t2.toArray⟩) := (Ha_r2.out.below hSw).cell 12
      have hc13 : X.cell? ⟨w.heap.size, 13, none⟩ = some (.string ⟨t3.toArray⟩) := (Ha_r2.out.below hSw).cell 13
      go_simp
      try with_reducible rfl
    rotate_left
    try simp only [Act.put, List.setIfInBounds_toArray, List.set_cons_zero, List.set_cons_succ, List.getElem_toArray, List.getElem_cons_zero, List.getElem_cons_succ]
    refine wpAnyH_take (i := 13) (v := ?_) rfl (by kernel_rfl) (by kernel_rfl) (by kernel_rfl) (fun _ _ _ h => h) (Or.inl ⟨by rfl, ?_⟩) (by assumption) ?_
    rotate_left
    · intro X hSw
      have hc0 : X.cell? ⟨w.heap.size, 0, none⟩ = some (.int .i64 m1) := (Ha_r2.out.below hSw).cell 0
      have hc1 : X.cell? ⟨w.heap.size, 1, none⟩ = some (.int .i64 m2) := (Ha_r2.out.below hSw).cell 1
      have hc2 : X.cell? ⟨w.heap.size, 2, none⟩ = some (.int .i64 m3) := (Ha_r2.out.below hSw).cell 2
      have hc3 : X.cell? ⟨w.heap.size, 3, none⟩ = some (.int .i64 m4) := (Ha_r2.out.below hSw).cell 3
      have hc4 : X.cell? ⟨w.heap.size, 4, none⟩ = some (.int .i64 m5) := (Ha_r2.out.below hSw).cell 4
      have hc5 : X.cell? ⟨w.heap.size, 5, none⟩ = some (.int .i64 m6) := (Ha_r2.out.below hSw).cell 5
      have hc6 : X.cell? ⟨w.heap.size, 6, none⟩ = some (.int .i64 k1) := (Ha_r2.out.below hSw).cell 6
      have hc7 : X.cell? ⟨w.heap.size, 7, none⟩ = some (.int .i64 k2) := (Ha_r2.out.below hSw).cell 7
      have hc8 : X.cell? ⟨w.heap.size, 8, none⟩ = some (.int .i64 k3) := (Ha_r2.out.below hSw).cell 8
      have hc9 : X.cell? ⟨w.heap.size, 9, none⟩ = some (.int .i64 k4) := (Ha_r2.out.below hSw).cell 9
      have hc10 : X.cell? ⟨w.heap.size, 10, none⟩ = some (.int .i64 k5) := (Ha_r2.out.below hSw).cell 10
      have hc11 : X.cell? ⟨w.heap.size, 11, none⟩ = some (.string ⟨t1.toArray⟩) := (Ha_r2.out.below hSw).cell 11
      have hc12 : X.cell? ⟨w.heap.size, 12, none⟩ = some (.string ⟨t2.toArray⟩) := (Ha_r2.out.below hSw).cell 12
      have hc13 : X.cell? ⟨w.heap.size, 13, none⟩ = some (.string ⟨t3.toArray⟩) := (Ha_r2.out.below hSw).cell 13
      go_simp
      try with_reducible rfl
    rotate_left
    try simp only [Act.put, List.setIfInBounds_toArray, List.set_cons_zero, List.set_cons_succ, List.getElem_toArray, List.getElem_cons_zero, List.getElem_cons_succ]
    refine wpAnyH_ready (rs := [12]) (by kernel_rfl) (by simp) ?_
    refine (AllReadyH.cons rfl (fun K hK => ?_) AllReadyH.nil)
    rw [if_pos (by rfl)]
    go_wp2_with fail
    refine (HM1.out _).mono ?_
    rintro e wz ⟨rfl, hb⟩
    replace hHeld := below_trans hHeld hb (Below.size hHeld)
    clear hb
    refine hK.out _ _ hHeld (fun _ => ?_)
    clear hK K
    try simp only [Act.put, List.setIfInBounds_toArray, List.set_cons_zero, List.set_cons_succ, List.getElem_toArray, List.getElem_cons_zero, List.getElem_cons_succ]
    refine wpAnyH_ready (rs := [14]) (by kernel_rfl) (by simp) ?_
    refine (AllReadyH.cons rfl (fun K hK => ?_) AllReadyH.nil)
    rw [if_pos (by rfl)]
    go_wp2_with fail
    refine (HM2.out _).mono ?_
    rintro e wz ⟨rfl, hb⟩
    replace hHeld := below_trans hHeld hb (Below.size hHeld)
    clear hb
    refine hK.out _ _ hHeld (fun _ => ?_)
    clear hK K
    try simp only [Act.put, List.setIfInBounds_toArray, List.set_cons_zero, List.set_cons_succ, List.getElem_toArray, List.getElem_cons_zero, List.getElem_cons_succ]
    refine wpAnyH_take (i := 15) (v := ?_) rfl (by kernel_rfl) (by kernel_rfl) (by kernel_rfl) (fun _ _ _ h => h) (Or.inl ⟨by rfl, ?_⟩) (by assumption) ?_
    rotate_left
    · intro X hSw
      go_simp
      try with_reducible rfl
    rotate_left
    try simp only [Act.put, List.setIfInBounds_toArray, List.set_cons_zero, List.set_cons_succ, List.getElem_toArray, List.getElem_cons_zero, List.getElem_cons_succ]
    refine wpAnyH_take (i := 16) (v := ?_) rfl (by kernel_rfl) (by kernel_rfl) (by kernel_rfl) (fun _ _ _ h => h) (Or.inl ⟨by rfl, ?_⟩) (by assumption) ?_
    rotate_left
    · intro X hSw
      go_simp
      try with_reducible rfl
    rotate_left
    try simp only [Act.put, List.setIfInBounds_toArray, List.set_cons_zero, List.set_cons_succ, List.getElem_toArray, List.getElem_cons_zero, List.getElem_cons_succ]
    refine wpAnyH_take (i := 17) (v := ?_) rfl (by kernel_rfl) (by kernel_rfl) (by kernel_rfl) (fun _ _ _ h => h) (Or.inl ⟨by rfl, ?_⟩) (by assumption) ?_
    rotate_left
    · intro X hSw
      go_simp
      try with_reducible rfl
    rotate_left
    try simp only [Act.put, List.setIfInBounds_toArray, List.set_cons_zero, List.set_cons_succ, List.getElem_toArray, List.getElem_cons_zero, List.getElem_cons_succ]
    refine wpAnyH_take (i := 18) (v := ?_) rfl (by kernel_rfl) (by kernel_rfl) (by kernel_rfl) (fun _ _ _ h => h) (Or.inl ⟨by rfl, ?_⟩) (by assumption) ?_
    rotate_left
    · intro X hSw
      have hc0 : X.cell? ⟨(w.heap.size + 1), 0, none⟩ = some (.int .i64 r1) := (Hr_r2.out.below hSw).cell 0
      have hc1 : X.cell? ⟨(w.heap.size + 1), 1, none⟩ = some (.int .i64 r2) := (Hr_r2.out.below hSw).cell 1
      have hc2 : X.cell? ⟨(w.heap.size + 1), 2, none⟩ = some (.int .i64 r3) := (Hr_r2.out.below hSw).cell 2
      have hc3 : X.cell? ⟨(w.heap.size + 1), 3, none⟩ = some (.int .i64 r4) := (Hr_r2.out.below hSw).cell 3
      have hc4 : X.cell? ⟨(w.heap.size + 1), 4, none⟩ = some (.int .i64 r5) := (Hr_r2.out.below hSw).cell 4
      have hc5 : X.cell? ⟨(w.heap.size + 1), 5, none⟩ = some (.int .i64 r6) := (Hr_r2.out.below hSw).cell 5
      have hc6 : X.cell? ⟨(w.heap.size + 1), 6, none⟩ = some (.int .i64 r7) := (Hr_r2.out.below hSw).cell 6
      have hc7 : X.cell? ⟨(w.heap.size + 1), 7, none⟩ = some (.int .i64 r8) := (Hr_r2.out.below hSw).cell 7
      have hc8 : X.cell? ⟨(w.heap.size + 1), 8, none⟩ = some (.int .i64 r9) := (Hr_r2.out.below hSw).cell 8
      have hc9 : X.cell? ⟨(w.heap.size + 1), 9, none⟩ = some (.string ⟨tx.toArray⟩) := (Hr_r2.out.below hSw).cell 9
      have hc10 : X.cell? ⟨(w.heap.size + 1), 10, none⟩ = some (.slice A ls.length cp) := (Hr_r2.out.below hSw).cell 10
      go_simp
      try with_reducible rfl
    rotate_left
    try simp only [Act.put, List.setIfInBounds_toArray, List.set_cons_zero, List.set_cons_succ, List.getElem_toArray, List.getElem_cons_zero, List.getElem_cons_succ]
    refine wpAnyH_take (i := 20) (v := ?_) rfl (by kernel_rfl) (by kernel_rfl) (by kernel_rfl) (fun _ _ _ h => h) (Or.inl ⟨by rfl, ?_⟩) (by assumption) ?_
    rotate_left
    · intro X hSw
      have hc0 : X.cell? ⟨(w.heap.size + 1), 0, none⟩ = some (.int .i64 r1) := (Hr_r2.out.below hSw).cell 0
      have hc1 : X.cell? ⟨(w.heap.size + 1), 1, none⟩ = some (.int .i64 r2) := (Hr_r2.out.below hSw).cell 1
      have hc2 : X.cell? ⟨(w.heap.size + 1), 2, none⟩ = some (.int .i64 r3) := (Hr_r2.out.below hSw).cell 2
      have hc3 : X.cell? ⟨(w.heap.size + 1), 3, none⟩ = some (.int .i64 r4) := (Hr_r2.out.below hSw).cell 3
      have hc4 : X.cell? ⟨(w.heap.size + 1), 4, none⟩ = some (.int .i64 r5) := (Hr_r2.out.below hSw).cell 4
      have hc5 : X.cell? ⟨(w.heap.size + 1), 5, none⟩ = some (.int .i64 r6) := (Hr_r2.out.below hSw).cell 5
      have hc6 : X.cell? ⟨(w.heap.size + 1), 6, none⟩ = some (.int .i64 r7) := (Hr_r2.out.below hSw).cell 6
      have hc7 : X.cell? ⟨(w.heap.size + 1), 7, none⟩ = some (.int .i64 r8) := (Hr_r2.out.below hSw).cell 7
      have hc8 : X.cell? ⟨(w.heap.size + 1), 8, none⟩ = some (.int .i64 r9) := (Hr_r2.out.below hSw).cell 8
      have hc9 : X.cell? ⟨(w.heap.size + 1), 9, none⟩ = some (.string ⟨tx.toArray⟩) := (Hr_r2.out.below hSw).cell 9
      have hc10 : X.cell? ⟨(w.heap.size + 1), 10, none⟩ = some (.slice A ls.length cp) := (Hr_r2.out.below hSw).cell 10
      go_simp
      try with_reducible rfl
    rotate_left
    try simp only [Act.put, List.setIfInBounds_toArray, List.set_cons_zero, List.set_cons_succ, List.getElem_toArray, List.getElem_cons_zero, List.getElem_cons_succ]
    refine wpAnyH_ready (rs := [19]) (by kernel_rfl) (by simp) ?_
    refine (AllReadyH.cons rfl (fun K hK => ?_) AllReadyH.nil)
    rw [if_pos (by rfl)]
    go_wp2_with fail
    refine (HR1.out _ _ ⟨A, cp, rfl, Rn_r2.out.below hHeld⟩).mono ?_
    rintro e wz ⟨rfl, hb⟩
    replace hHeld := below_trans hHeld hb (Below.size hHeld)
    clear hb
    refine hK.out _ _ hHeld (fun _ => ?_)
    clear hK K
    try simp only [Act.put, List.setIfInBounds_toArray, List.set_cons_zero, List.set_cons_succ, List.getElem_toArray, List.getElem_cons_zero, List.getElem_cons_succ]
    refine wpAnyH_ready (rs := [21]) (by kernel_rfl) (by simp) ?_
    refine (AllReadyH.cons rfl (fun K hK => ?_) AllReadyH.nil)
    rw [if_pos (by rfl)]
    go_wp2_with fail
    refine (HR2.out _ _ ⟨A, cp, rfl, Rn_r2.out.below hHeld⟩).mono ?_
    rintro e wz ⟨rfl, hb⟩
    replace hHeld := below_trans hHeld hb (Below.size hHeld)
    clear hb
    refine hK.out _ _ hHeld (fun _ => ?_)
    clear hK K
    try simp only [Act.put, List.setIfInBounds_toArray, List.set_cons_zero, List.set_cons_succ, List.getElem_toArray, List.getElem_cons_zero, List.getElem_cons_succ]
    refine wpAnyH_take (i := 22) (v := ?_) rfl (by kernel_rfl) (by kernel_rfl) (by kernel_rfl) (fun _ _ _ h => h) (Or.inl ⟨by rfl, ?_⟩) (by assumption) ?_
    rotate_left
    · intro X hSw
      go_simp
      try with_reducible rfl
    rotate_left
    try simp only [Act.put, List.setIfInBounds_toArray, List.set_cons_zero, List.set_cons_succ, List.getElem_toArray, List.getElem_cons_zero, List.getElem_cons_succ]
    refine wpAnyH_take (i := 23) (v := ?_) rfl (by kernel_rfl) (by kernel_rfl) (by kernel_rfl) (fun _ _ _ h => h) (Or.inl ⟨by rfl, ?_⟩) (by assumption) ?_
    rotate_left
    · intro X hSw
      go_simp
      try with_reducible rfl
    rotate_left
    try simp only [Act.put, List.setIfInBounds_toArray, List.set_cons_zero, List.set_cons_succ, List.getElem_toArray, List.getElem_cons_zero, List.getElem_cons_succ]
    refine wpAnyH_take (i := 24) (v := ?_) rfl (by kernel_rfl) (by kernel_rfl) (by kernel_rfl) (fun _ _ _ h => h) (Or.inl ⟨by rfl, ?_⟩) (by assumption) ?_
    rotate_left
    · intro X hSw
      go_simp
      try with_reducible rfl
    rotate_left
    try simp only [Act.put, List.setIfInBounds_toArray, List.set_cons_zero, List.set_cons_succ, List.getElem_toArray, List.getElem_cons_zero, List.getElem_cons_succ]
    refine wpAnyH_take (i := 25) (v := ?_) rfl (by kernel_rfl) (by kernel_rfl) (by kernel_rfl) (fun _ _ _ h => h) (Or.inl ⟨by rfl, ?_⟩) (by assumption) ?_
    rotate_left
    · intro X hSw
      have hc0 : X.cell? ⟨(w.heap.size + 1), 0, none⟩ = some (.int .i64 r1) := (Hr_r2.out.below hSw).cell 0
      have hc1 : X.cell? ⟨(w.heap.size + 1), 1, none⟩ = some (.int .i64 r2) := (Hr_r2.out.below hSw).cell 1
      have hc2 : X.cell? ⟨(w.heap.size + 1), 2, none⟩ = some (.int .i64 r3) := (Hr_r2.out.below hSw).cell 2
      have hc3 : X.cell? ⟨(w.heap.size + 1), 3, none⟩ = some (.int .i64 r4) := (Hr_r2.out.below hSw).cell 3
      have hc4 : X.cell? ⟨(w.heap.size + 1), 4, none⟩ = some (.int .i64 r5) := (Hr_r2.out.below hSw).cell 4
      have hc5 : X.cell? ⟨(w.heap.size + 1), 5, none⟩ = some (.int .i64 r6) := (Hr_r2.out.below hSw).cell 5
      have hc6 : X.cell? ⟨(w.heap.size + 1), 6, none⟩ = some (.int .i64 r7) := (Hr_r2.out.below hSw).cell 6
      have hc7 : X.cell? ⟨(w.heap.size + 1), 7, none⟩ = some (.int .i64 r8) := (Hr_r2.out.below hSw).cell 7
      have hc8 : X.cell? ⟨(w.heap.size + 1), 8, none⟩ = some (.int .i64 r9) := (Hr_r2.out.below hSw).cell 8
      have hc9 : X.cell? ⟨(w.heap.size + 1), 9, none⟩ = some (.string ⟨tx.toArray⟩) := (Hr_r2.out.below hSw).cell 9
      have hc10 : X.cell? ⟨(w.heap.size + 1), 10, none⟩ = some (.slice A ls.length cp) := (Hr_r2.out.below hSw).cell 10
      go_simp
      try with_reducible rfl
    rotate_left
    try simp only [Act.put, List.setIfInBounds_toArray, List.set_cons_zero, List.set_cons_succ, List.getElem_toArray, List.getElem_cons_zero, List.getElem_cons_succ]
    refine wpAnyH_take (i := 26) (v := ?_) rfl (by kernel_rfl) (by kernel_rfl) (by kernel_rfl) (fun _ _ _ h => h) (Or.inl ⟨by rfl, ?_⟩) (by assumption) ?_
    rotate_left
    · intro X hSw
      have hc0 : X.cell? ⟨(w.heap.size + 2), 0, none⟩ = some (.int .i64 q1) := (Hq_r2.out.below hSw).cell 0
      have hc1 : X.cell? ⟨(w.heap.size + 2), 1, none⟩ = some (.int .i64 q2) := (Hq_r2.out.below hSw).cell 1
      have hc2 : X.cell? ⟨(w.heap.size + 2), 2, none⟩ = some (.int .i64 q3) := (Hq_r2.out.below hSw).cell 2
      have hc3 : X.cell? ⟨(w.heap.size + 2), 3, none⟩ = some (.int .i64 q4) := (Hq_r2.out.below hSw).cell 3
      have hc4 : X.cell? ⟨(w.heap.size + 2), 4, none⟩ = some (.int .i64 q5) := (Hq_r2.out.below hSw).cell 4
      have hc5 : X.cell? ⟨(w.heap.size + 2), 5, none⟩ = some (.int .i64 q6) := (Hq_r2.out.below hSw).cell 5
      have hc6 : X.cell? ⟨(w.heap.size + 2), 6, none⟩ = some (.int .i64 q7) := (Hq_r2.out.below hSw).cell 6
      have hc7 : X.cell? ⟨(w.heap.size + 2), 7, none⟩ = some (.int .i64 q8) := (Hq_r2.out.below hSw).cell 7
      have hc8 : X.cell? ⟨(w.heap.size + 2), 8, none⟩ = some (.int .i64 q9) := (Hq_r2.out.below hSw).cell 8
      have hc9 : X.cell? ⟨(w.heap.size + 2), 9, none⟩ = some (.string ⟨ux.toArray⟩) := (Hq_r2.out.below hSw).cell 9
      have hc10 : X.cell? ⟨(w.heap.size + 2), 10, none⟩ = some (.slice B ks.length cq) := (Hq_r2.out.below hSw).cell 10
      go_simp
      try with_reducible rfl
    rotate_left
    try simp only [Act.put, List.setIfInBounds_toArray, List.set_cons_zero, List.set_cons_succ, List.getElem_toArray, List.getElem_cons_zero, List.getElem_cons_succ]
    refine wpAnyH_take (i := 28) (v := ?_) rfl (by kernel_rfl) (by kernel_rfl) (by kernel_rfl) (fun _ _ _ h => h) (Or.inl ⟨by rfl, ?_⟩) (by assumption) ?_
    rotate_left
    · intro X hSw
      have hc0 : X.cell? ⟨(w.heap.size + 1), 0, none⟩ = some (.int .i64 r1) := (Hr_r2.out.below hSw).cell 0
      have hc1 : X.cell? ⟨(w.heap.size + 1), 1, none⟩ = some (.int .i64 r2) := (Hr_r2.out.below hSw).cell 1
      have hc2 : X.cell? ⟨(w.heap.size + 1), 2, none⟩ = some (.int .i64 r3) := (Hr_r2.out.below hSw).cell 2
      have hc3 : X.cell? ⟨(w.heap.size + 1), 3, none⟩ = some (.int .i64 r4) := (Hr_r2.out.below hSw).cell 3
      have hc4 : X.cell? ⟨(w.heap.size + 1), 4, none⟩ = some (.int .i64 r5) := (Hr_r2.out.below hSw).cell 4
      have hc5 : X.cell? ⟨(w.heap.size + 1), 5, none⟩ = some (.int .i64 r6) := (Hr_r2.out.below hSw).cell 5
      have hc6 : X.cell? ⟨(w.heap.size + 1), 6, none⟩ = some (.int .i64 r7) := (Hr_r2.out.below hSw).cell 6
      have hc7 : X.cell? ⟨(w.heap.size + 1), 7, none⟩ = some (.int .i64 r8) := (Hr_r2.out.below hSw).cell 7
      have hc8 : X.cell? ⟨(w.heap.size + 1), 8, none⟩ = some (.int .i64 r9) := (Hr_r2.out.below hSw).cell 8
      have hc9 : X.cell? ⟨(w.heap.size + 1), 9, none⟩ = some (.string ⟨tx.toArray⟩) := (Hr_r2.out.below hSw).cell 9
      have hc10 : X.cell? ⟨(w.heap.size + 1), 10, none⟩ = some (.slice A ls.length cp) := (Hr_r2.out.below hSw).cell 10
      go_simp
      try with_reducible rfl
    rotate_left
    try simp only [Act.put, List.setIfInBounds_toArray, List.set_cons_zero, List.set_cons_succ, List.getElem_toArray, List.getElem_cons_zero, List.getElem_cons_succ]
    refine wpAnyH_take (i := 29) (v := ?_) rfl (by kernel_rfl) (by kernel_rfl) (by kernel_rfl) (fun _ _ _ h => h) (Or.inl ⟨by rfl, ?_⟩) (by assumption) ?_
    rotate_left
    · intro X hSw
      have hc0 : X.cell? ⟨(w.heap.size + 2), 0, none⟩ = some (.int .i64 q1) := (Hq_r2.out.below hSw).cell 0
      have hc1 : X.cell? ⟨(w.heap.size + 2), 1, none⟩ = some (.int .i64 q2) := (Hq_r2.out.below hSw).cell 1
      have hc2 : X.cell? ⟨(w.heap.size + 2), 2, none⟩ = some (.int .i64 q3) := (Hq_r2.out.below hSw).cell 2
      have hc3 : X.cell? ⟨(w.heap.size + 2), 3, none⟩ = some (.int .i64 q4) := (Hq_r2.out.below hSw).cell 3
      have hc4 : X.cell? ⟨(w.heap.size + 2), 4, none⟩ = some (.int .i64 q5) := (Hq_r2.out.below hSw).cell 4
      have hc5 : X.cell? ⟨(w.heap.size + 2), 5, none⟩ = some (.int .i64 q6) := (Hq_r2.out.below hSw).cell 5
      have hc6 : X.cell? ⟨(w.heap.size + 2), 6, none⟩ = some (.int .i64 q7) := (Hq_r2.out.below hSw).cell 6
      have hc7 : X.cell? ⟨(w.heap.size + 2), 7, none⟩ = some (.int .i64 q8) := (Hq_r2.out.below hSw).cell 7
      have hc8 : X.cell? ⟨(w.heap.size + 2), 8, none⟩ = some (.int .i64 q9) := (Hq_r2.out.below hSw).cell 8
      have hc9 : X.cell? ⟨(w.heap.size + 2), 9, none⟩ = some (.string ⟨ux.toArray⟩) := (Hq_r2.out.below hSw).cell 9
      have hc10 : X.cell? ⟨(w.heap.size + 2), 10, none⟩ = some (.slice B ks.length cq) := (Hq_r2.out.below hSw).cell 10
      go_simp
      try with_reducible rfl
    rotate_left
    try simp only [Act.put, List.setIfInBounds_toArray, List.set_cons_zero, List.set_cons_succ, List.getElem_toArray, List.getElem_cons_zero, List.getElem_cons_succ]
    refine wpAnyH_ready (rs := [27]) (by kernel_rfl) (by simp) ?_
    refine (AllReadyH.cons rfl (fun K hK => ?_) AllReadyH.nil)
    rw [if_pos (by rfl)]
    go_wp2_with fail
    refine (HS1.out _ _ _ ⟨A, cp, rfl, Rn_r2.out.below hHeld⟩ ⟨B, cq, rfl, Rk_r2.out.below hHeld⟩).mono ?_
    rintro e wz ⟨rfl, hb⟩
    replace hHeld := below_trans hHeld hb (Below.size hHeld)
    clear hb
    refine hK.out _ _ hHeld (fun _ => ?_)
    clear hK K
    try simp only [Act.put, List.setIfInBounds_toArray, List.set_cons_zero, List.set_cons_succ, List.getElem_toArray, List.getElem_cons_zero, List.getElem_cons_succ]
    refine wpAnyH_ready (rs := [30]) (by kernel_rfl) (by simp) ?_
    refine (AllReadyH.cons rfl (fun K hK => ?_) AllReadyH.nil)
    rw [if_pos (by rfl)]
    go_wp2_with fail
    refine (HS2.out _ _ _ ⟨A, cp, rfl, Rn_r2.out.below hHeld⟩ ⟨B, cq, rfl, Rk_r2.out.below hHeld⟩).mono ?_
    rintro e wz ⟨rfl, hb⟩
    replace hHeld := below_trans hHeld hb (Below.size hHeld)
    clear hb
    refine hK.out _ _ hHeld (fun _ => ?_)
    clear hK K
    try simp only [Act.put, List.setIfInBounds_toArray, List.set_cons_zero, List.set_cons_succ, List.getElem_toArray, List.getElem_cons_zero, List.getElem_cons_succ]
    refine wpAnyH_take (i := 31) (v := ?_) rfl (by kernel_rfl) (by kernel_rfl) (by kernel_rfl) (fun _ _ _ h => h) (Or.inl ⟨by rfl, ?_⟩) (by assumption) ?_
    rotate_left
    · intro X hSw
      go_simp
      try with_reducible rfl
    rotate_left
    try simp only [Act.put, List.setIfInBounds_toArray, List.set_cons_zero, List.set_cons_succ, List.getElem_toArray, List.getElem_cons_zero, List.getElem_cons_succ]
    refine wpAnyH_take (i := 32) (v := ?_) rfl (by kernel_rfl) (by kernel_rfl) (by kernel_rfl) (fun _ _ _ h => h) (Or.inl ⟨by rfl, ?_⟩) (by assumption) ?_
    rotate_left
    · intro X hSw
      go_simp
      try with_reducible rfl
    rotate_left
    try simp only [Act.put, List.setIfInBounds_toArray, List.set_cons_zero, List.set_cons_succ, List.getElem_toArray, List.getElem_cons_zero, List.getElem_cons_succ]
    refine wpAnyH_take (i := 33) (v := ?_) rfl (by kernel_rfl) (by kernel_rfl) (by kernel_rfl) (fun _ _ _ h => h) (Or.inl ⟨by rfl, ?_⟩) (by assumption) ?_
    rotate_left
    · intro X hSw
      go_simp
      try with_reducible rfl
    rotate_left
    try simp only [Act.put, List.setIfInBounds_toArray, List.set_cons_zero, List.set_cons_succ, List.getElem_toArray, List.getElem_cons_zero, List.getElem_cons_succ]
    refine wpAnyH_done (by kernel_rfl) ?_ _
    go_wp2_with fail
    go_ret
    exact ⟨by simp, below_trans BW_r2.out hHeld BW_r2.out.size⟩
theorem own : ownKnob Try.prog.godebug = none := by kernel_rfl
theorem laidOut : laidOutB Try.prog = true := by kernel_rfl
theorem cellscopyhold_api_Msg : Try.prog.cellsOf 25 = 14 := by kernel_rfl
theorem cellsint : Try.prog.cellsOf 3 = 1 := by kernel_rfl
theorem cellscopyhold_api_Call : Try.prog.cellsOf 23 = 8 := by kernel_rfl
theorem cellsstring : Try.prog.cellsOf 9 = 1 := by kernel_rfl
theorem cellscopyhold_api_Rsp : Try.prog.cellsOf 31 = 11 := by kernel_rfl
theorem cellscopyhold_api_Reply : Try.prog.cellsOf 29 = 6 := by kernel_rfl
theorem cellscopyhold_api_Errno : Try.prog.cellsOf 26 = 1 := by kernel_rfl
theorem cells__string : Try.prog.cellsOf 27 = 1 := by kernel_rfl

set_option maxRecDepth 100000 in
set_option maxHeartbeats 1000000 in
theorem lifted (os : Os) (started : os.Started) (H : Type) (enc : TypeId × Value → H) (F : Stop.Interp) :
    ReturnsInHanded {} Try.checked os 3 .any ((Rows.OpenSpec.upto Rows.wireLaysSpec).pre6 enc Try.prog Try.f3 Rows.wireLaysUptoRow.domain false) (((Rows.OpenSpec.upto Rows.wireLaysSpec).at F).post enc Try.prog Try.f3 false true false false) := by
  refine returnsInHanded_of_cond (C := Try.checked) (s := Rows.OpenSpec.upto Rows.wireLaysSpec) (k := Rows.uptoSmall) rfl own started (by kernel_rfl) Try.func3
    (OpenSpec.witness (enc := enc) (C := Try.checked) (s := Rows.OpenSpec.upto Rows.wireLaysSpec) (k := Rows.uptoSmall) rfl false ⟨#[], #[.agg #[.int .i64 0, .int .i64 0, .int .i64 0, .int .i64 0, .int .i64 0, .int .i64 0, .int .i64 0, .int .i64 0, .int .i64 0, .int .i64 0, .int .i64 0, .string ByteArray.empty, .string ByteArray.empty, .string ByteArray.empty], .agg #[.int .i64 0, .int .i64 0, .int .i64 0, .int .i64 0, .int .i64 0, .int .i64 0, .int .i64 0, .int .i64 0, .int .i64 0, .string ByteArray.empty, .slice none 0 0], .agg #[.int .i64 0, .int .i64 0, .int .i64 0, .int .i64 0, .int .i64 0, .int .i64 0, .int .i64 0, .int .i64 0, .int .i64 0, .string ByteArray.empty, .slice none 0 0]], []⟩ 8 (by kernel_rfl) (by kernel_rfl) (by kernel_rfl)
      (x := ([.agg [.lit (.int .i64 0), .lit (.int .i64 0), .lit (.int .i64 0), .lit (.int .i64 0), .lit (.int .i64 0), .lit (.int .i64 0), .agg [.lit (.int .i64 0), .lit (.int .i64 0), .lit (.int .i64 0), .lit (.int .i64 0), .lit (.int .i64 0), .lit (.string []), .lit (.string []), .lit (.string [])]], .agg [.lit (.int .i64 0), .lit (.int .i64 0), .lit (.int .i64 0), .lit (.int .i64 0), .lit (.int .i64 0), .agg [.lit (.int .i64 0), .lit (.int .i64 0), .lit (.int .i64 0), .lit (.int .i64 0), .lit (.string []), .nil]], .agg [.lit (.int .i64 0), .lit (.int .i64 0), .lit (.int .i64 0), .lit (.int .i64 0), .lit (.int .i64 0), .agg [.lit (.int .i64 0), .lit (.int .i64 0), .lit (.int .i64 0), .lit (.int .i64 0), .lit (.string []), .nil]]], [], [])) (by kernel_rfl) rfl (by kernel_rfl)) ?_
  intro W base args ds gs before hval0 hW hcnd hk _
  have hval : ∀ (j : Nat) t v, Try.f3.params[j]? = some t → args[j]? = some v → Value.okWide Try.prog W .any base t v := hval0
  have hW' := hW
  have hlt := hW.lt
  obtain ⟨p, q, hA0, hV, rfl, hfz, hnd⟩ := hW
  have hA : DataW.TrodAll enc Try.prog W 0 (fun _ => true) true Try.f3.params.toList args.toList ds p := hA0
  rw [Try.params3] at hA hval
  obtain ⟨v0, vs0, d0, ds0, p0, q0, hargs, rfl, rfl, h0, r0⟩ := trodAll_cons hA
  obtain ⟨v1, vs1, d1, ds1, p1, q1, rfl, rfl, rfl, h1, r1⟩ := trodAll_cons r0
  obtain ⟨v2, vs2, d2, ds2, p2, q2, rfl, rfl, rfl, h2, r2⟩ := trodAll_cons r1
  obtain ⟨rfl, rfl, rfl⟩ := trodAll_nil r2
  obtain rfl : args = #[v0, v1, v2] := by cases args; simp_all
  obtain ⟨rfl, rfl⟩ := trodVars_none hV
  obtain ⟨cs0, rfl, hcz0⟩ := okWide_struct Try.underlying25 (hval 0 25 v0 rfl rfl)
  rw [cellscopyhold_api_Msg] at hcz0
  obtain ⟨c0_0, c0_1, c0_2, c0_3, c0_4, c0_5, c0_6_0, c0_6_1, c0_6_2, c0_6_3, c0_6_4, c0_6_5, c0_6_6, c0_6_7, rfl⟩ := array14_of hcz0
  obtain ⟨fuel0, hf0⟩ := h0
  obtain ⟨xs0, m0, _, hx0, _, hlen0, hfl0⟩ := DataW.trod_struct Try.underlying25 hf0
  obtain ⟨y0_0, y0_1, y0_2, y0_3, y0_4, y0_5, y0_6, rfl⟩ := list7 hlen0
  have g0_0 : DataW.trod enc Try.prog W 0 (fun _ => true) true m0 3 [c0_0] = some y0_0 := by have h := hfl0 0 _ rfl; simpa [Value.cells, cellsint] using h
  have g0_1 : DataW.trod enc Try.prog W 0 (fun _ => true) true m0 3 [c0_1] = some y0_1 := by have h := hfl0 1 _ rfl; simpa [Value.cells, cellsint] using h
  have g0_2 : DataW.trod enc Try.prog W 0 (fun _ => true) true m0 3 [c0_2] = some y0_2 := by have h := hfl0 2 _ rfl; simpa [Value.cells, cellsint] using h
  have g0_3 : DataW.trod enc Try.prog W 0 (fun _ => true) true m0 3 [c0_3] = some y0_3 := by have h := hfl0 3 _ rfl; simpa [Value.cells, cellsint] using h
  have g0_4 : DataW.trod enc Try.prog W 0 (fun _ => true) true m0 3 [c0_4] = some y0_4 := by have h := hfl0 4 _ rfl; simpa [Value.cells, cellsint] using h
  have g0_5 : DataW.trod enc Try.prog W 0 (fun _ => true) true m0 3 [c0_5] = some y0_5 := by have h := hfl0 5 _ rfl; simpa [Value.cells, cellsint] using h
  have g0_6 : DataW.trod enc Try.prog W 0 (fun _ => true) true m0 23 [c0_6_0, c0_6_1, c0_6_2, c0_6_3, c0_6_4, c0_6_5, c0_6_6, c0_6_7] = some y0_6 := by have h := hfl0 6 _ rfl; simpa [Value.cells, cellscopyhold_api_Call] using h
  simp only [Prod.mk.injEq] at hx0
  obtain ⟨rfl, hp0⟩ := hx0
  subst hp0
  have hk0 := bulk_le hk (d := .agg [y0_0.1, y0_1.1, y0_2.1, y0_3.1, y0_4.1, y0_5.1, y0_6.1]) (by simp)
  obtain ⟨a0_0, ev0_0, ey0_0, w0_0⟩ := DataW.trod_int Try.underlying3 g0_0
  obtain rfl : c0_0 = _ := by simpa using ev0_0
  subst ey0_0
  obtain ⟨a0_1, ev0_1, ey0_1, w0_1⟩ := DataW.trod_int Try.underlying3 g0_1
  obtain rfl : c0_1 = _ := by simpa using ev0_1
  subst ey0_1
  obtain ⟨a0_2, ev0_2, ey0_2, w0_2⟩ := DataW.trod_int Try.underlying3 g0_2
  obtain rfl : c0_2 = _ := by simpa using ev0_2
  subst ey0_2
  obtain ⟨a0_3, ev0_3, ey0_3, w0_3⟩ := DataW.trod_int Try.underlying3 g0_3
  obtain rfl : c0_3 = _ := by simpa using ev0_3
  subst ey0_3
  obtain ⟨a0_4, ev0_4, ey0_4, w0_4⟩ := DataW.trod_int Try.underlying3 g0_4
  obtain rfl : c0_4 = _ := by simpa using ev0_4
  subst ey0_4
  obtain ⟨a0_5, ev0_5, ey0_5, w0_5⟩ := DataW.trod_int Try.underlying3 g0_5
  obtain rfl : c0_5 = _ := by simpa using ev0_5
  subst ey0_5
  obtain ⟨xs0_6, m0_6, _, hx0_6, _, hlen0_6, hfl0_6⟩ := DataW.trod_struct Try.underlying23 g0_6
  obtain ⟨y0_6_0, y0_6_1, y0_6_2, y0_6_3, y0_6_4, y0_6_5, y0_6_6, y0_6_7, rfl⟩ := list8 hlen0_6
  have g0_6_0 : DataW.trod enc Try.prog W 0 (fun _ => true) true m0_6 3 [c0_6_0] = some y0_6_0 := by have h := hfl0_6 0 _ rfl; simpa [Value.cells, cellsint] using h
  have g0_6_1 : DataW.trod enc Try.prog W 0 (fun _ => true) true m0_6 3 [c0_6_1] = some y0_6_1 := by have h := hfl0_6 1 _ rfl; simpa [Value.cells, cellsint] using h
  have g0_6_2 : DataW.trod enc Try.prog W 0 (fun _ => true) true m0_6 3 [c0_6_2] = some y0_6_2 := by have h := hfl0_6 2 _ rfl; simpa [Value.cells, cellsint] using h
  have g0_6_3 : DataW.trod enc Try.prog W 0 (fun _ => true) true m0_6 3 [c0_6_3] = some y0_6_3 := by have h := hfl0_6 3 _ rfl; simpa [Value.cells, cellsint] using h
  have g0_6_4 : DataW.trod enc Try.prog W 0 (fun _ => true) true m0_6 3 [c0_6_4] = some y0_6_4 := by have h := hfl0_6 4 _ rfl; simpa [Value.cells, cellsint] using h
  have g0_6_5 : DataW.trod enc Try.prog W 0 (fun _ => true) true m0_6 9 [c0_6_5] = some y0_6_5 := by have h := hfl0_6 5 _ rfl; simpa [Value.cells, cellsstring] using h
  have g0_6_6 : DataW.trod enc Try.prog W 0 (fun _ => true) true m0_6 9 [c0_6_6] = some y0_6_6 := by have h := hfl0_6 6 _ rfl; simpa [Value.cells, cellsstring] using h
  have g0_6_7 : DataW.trod enc Try.prog W 0 (fun _ => true) true m0_6 9 [c0_6_7] = some y0_6_7 := by have h := hfl0_6 7 _ rfl; simpa [Value.cells, cellsstring] using h
  subst hx0_6
  have hk0_6 := bulk_agg hk0 (d := .agg [y0_6_0.1, y0_6_1.1, y0_6_2.1, y0_6_3.1, y0_6_4.1, y0_6_5.1, y0_6_6.1, y0_6_7.1]) (by simp)
  obtain ⟨a0_6_0, ev0_6_0, ey0_6_0, w0_6_0⟩ := DataW.trod_int Try.underlying3 g0_6_0
  obtain rfl : c0_6_0 = _ := by simpa using ev0_6_0
  subst ey0_6_0
  obtain ⟨a0_6_1, ev0_6_1, ey0_6_1, w0_6_1⟩ := DataW.trod_int Try.underlying3 g0_6_1
  obtain rfl : c0_6_1 = _ := by simpa using ev0_6_1
  subst ey0_6_1
  obtain ⟨a0_6_2, ev0_6_2, ey0_6_2, w0_6_2⟩ := DataW.trod_int Try.underlying3 g0_6_2
  obtain rfl : c0_6_2 = _ := by simpa using ev0_6_2
  subst ey0_6_2
  obtain ⟨a0_6_3, ev0_6_3, ey0_6_3, w0_6_3⟩ := DataW.trod_int Try.underlying3 g0_6_3
  obtain rfl : c0_6_3 = _ := by simpa using ev0_6_3
  subst ey0_6_3
  obtain ⟨a0_6_4, ev0_6_4, ey0_6_4, w0_6_4⟩ := DataW.trod_int Try.underlying3 g0_6_4
  obtain rfl : c0_6_4 = _ := by simpa using ev0_6_4
  subst ey0_6_4
  obtain ⟨s0_6_5, ev0_6_5, ey0_6_5, w0_6_5⟩ := DataW.trod_string Try.underlying9 g0_6_5
  obtain rfl : c0_6_5 = _ := by simpa using ev0_6_5
  subst ey0_6_5
  have z0_6_5 : s0_6_5.data.toList.length ≤ 1048576 := bulk_string (bulk_agg hk0_6 (d := .lit (.string s0_6_5.data.toList)) (by simp))
  obtain ⟨a0_6_5, rfl⟩ : ∃ l : List UInt8, s0_6_5 = ⟨l.toArray⟩ := ⟨s0_6_5.data.toList, rfl⟩
  obtain ⟨s0_6_6, ev0_6_6, ey0_6_6, w0_6_6⟩ := DataW.trod_string Try.underlying9 g0_6_6
  obtain rfl : c0_6_6 = _ := by simpa using ev0_6_6
  subst ey0_6_6
  have z0_6_6 : s0_6_6.data.toList.length ≤ 1048576 := bulk_string (bulk_agg hk0_6 (d := .lit (.string s0_6_6.data.toList)) (by simp))
  obtain ⟨a0_6_6, rfl⟩ : ∃ l : List UInt8, s0_6_6 = ⟨l.toArray⟩ := ⟨s0_6_6.data.toList, rfl⟩
  obtain ⟨s0_6_7, ev0_6_7, ey0_6_7, w0_6_7⟩ := DataW.trod_string Try.underlying9 g0_6_7
  obtain rfl : c0_6_7 = _ := by simpa using ev0_6_7
  subst ey0_6_7
  have z0_6_7 : s0_6_7.data.toList.length ≤ 1048576 := bulk_string (bulk_agg hk0_6 (d := .lit (.string s0_6_7.data.toList)) (by simp))
  obtain ⟨a0_6_7, rfl⟩ : ∃ l : List UInt8, s0_6_7 = ⟨l.toArray⟩ := ⟨s0_6_7.data.toList, rfl⟩
  obtain ⟨cs1, rfl, hcz1⟩ := okWide_struct Try.underlying31 (hval 1 31 v1 rfl rfl)
  rw [cellscopyhold_api_Rsp] at hcz1
  obtain ⟨c1_0, c1_1, c1_2, c1_3, c1_4, c1_5_0, c1_5_1, c1_5_2, c1_5_3, c1_5_4, c1_5_5, rfl⟩ := array11_of hcz1
  obtain ⟨fuel1, hf1⟩ := h1
  obtain ⟨xs1, m1, _, hx1, _, hlen1, hfl1⟩ := DataW.trod_struct Try.underlying31 hf1
  obtain ⟨y1_0, y1_1, y1_2, y1_3, y1_4, y1_5, rfl⟩ := list6 hlen1
  have g1_0 : DataW.trod enc Try.prog W 0 (fun _ => true) true m1 3 [c1_0] = some y1_0 := by have h := hfl1 0 _ rfl; simpa [Value.cells, cellsint] using h
  have g1_1 : DataW.trod enc Try.prog W 0 (fun _ => true) true m1 3 [c1_1] = some y1_1 := by have h := hfl1 1 _ rfl; simpa [Value.cells, cellsint] using h
  have g1_2 : DataW.trod enc Try.prog W 0 (fun _ => true) true m1 3 [c1_2] = some y1_2 := by have h := hfl1 2 _ rfl; simpa [Value.cells, cellsint] using h
  have g1_3 : DataW.trod enc Try.prog W 0 (fun _ => true) true m1 3 [c1_3] = some y1_3 := by have h := hfl1 3 _ rfl; simpa [Value.cells, cellsint] using h
  have g1_4 : DataW.trod enc Try.prog W 0 (fun _ => true) true m1 3 [c1_4] = some y1_4 := by have h := hfl1 4 _ rfl; simpa [Value.cells, cellsint] using h
  have g1_5 : DataW.trod enc Try.prog W 0 (fun _ => true) true m1 29 [c1_5_0, c1_5_1, c1_5_2, c1_5_3, c1_5_4, c1_5_5] = some y1_5 := by have h := hfl1 5 _ rfl; simpa [Value.cells, cellscopyhold_api_Reply] using h
  simp only [Prod.mk.injEq] at hx1
  obtain ⟨rfl, hp1⟩ := hx1
  subst hp1
  have hk1 := bulk_le hk (d := .agg [y1_0.1, y1_1.1, y1_2.1, y1_3.1, y1_4.1, y1_5.1]) (by simp)
  obtain ⟨a1_0, ev1_0, ey1_0, w1_0⟩ := DataW.trod_int Try.underlying3 g1_0
  obtain rfl : c1_0 = _ := by simpa using ev1_0
  subst ey1_0
  obtain ⟨a1_1, ev1_1, ey1_1, w1_1⟩ := DataW.trod_int Try.underlying3 g1_1
  obtain rfl : c1_1 = _ := by simpa using ev1_1
  subst ey1_1
  obtain ⟨a1_2, ev1_2, ey1_2, w1_2⟩ := DataW.trod_int Try.underlying3 g1_2
  obtain rfl : c1_2 = _ := by simpa using ev1_2
  subst ey1_2
  obtain ⟨a1_3, ev1_3, ey1_3, w1_3⟩ := DataW.trod_int Try.underlying3 g1_3
  obtain rfl : c1_3 = _ := by simpa using ev1_3
  subst ey1_3
  obtain ⟨a1_4, ev1_4, ey1_4, w1_4⟩ := DataW.trod_int Try.underlying3 g1_4
  obtain rfl : c1_4 = _ := by simpa using ev1_4
  subst ey1_4
  obtain ⟨xs1_5, m1_5, _, hx1_5, _, hlen1_5, hfl1_5⟩ := DataW.trod_struct Try.underlying29 g1_5
  obtain ⟨y1_5_0, y1_5_1, y1_5_2, y1_5_3, y1_5_4, y1_5_5, rfl⟩ := list6 hlen1_5
  have g1_5_0 : DataW.trod enc Try.prog W 0 (fun _ => true) true m1_5 26 [c1_5_0] = some y1_5_0 := by have h := hfl1_5 0 _ rfl; simpa [Value.cells, cellscopyhold_api_Errno] using h
  have g1_5_1 : DataW.trod enc Try.prog W 0 (fun _ => true) true m1_5 3 [c1_5_1] = some y1_5_1 := by have h := hfl1_5 1 _ rfl; simpa [Value.cells, cellsint] using h
  have g1_5_2 : DataW.trod enc Try.prog W 0 (fun _ => true) true m1_5 3 [c1_5_2] = some y1_5_2 := by have h := hfl1_5 2 _ rfl; simpa [Value.cells, cellsint] using h
  have g1_5_3 : DataW.trod enc Try.prog W 0 (fun _ => true) true m1_5 3 [c1_5_3] = some y1_5_3 := by have h := hfl1_5 3 _ rfl; simpa [Value.cells, cellsint] using h
  have g1_5_4 : DataW.trod enc Try.prog W 0 (fun _ => true) true m1_5 9 [c1_5_4] = some y1_5_4 := by have h := hfl1_5 4 _ rfl; simpa [Value.cells, cellsstring] using h
  have g1_5_5 : DataW.trod enc Try.prog W 0 (fun _ => true) true m1_5 27 [c1_5_5] = some y1_5_5 := by have h := hfl1_5 5 _ rfl; simpa [Value.cells, cells__string] using h
  subst hx1_5
  have hk1_5 := bulk_agg hk1 (d := .agg [y1_5_0.1, y1_5_1.1, y1_5_2.1, y1_5_3.1, y1_5_4.1, y1_5_5.1]) (by simp)
  obtain ⟨a1_5_0, ev1_5_0, ey1_5_0, w1_5_0⟩ := DataW.trod_int Try.underlying26 g1_5_0
  obtain rfl : c1_5_0 = _ := by simpa using ev1_5_0
  subst ey1_5_0
  obtain ⟨a1_5_1, ev1_5_1, ey1_5_1, w1_5_1⟩ := DataW.trod_int Try.underlying3 g1_5_1
  obtain rfl : c1_5_1 = _ := by simpa using ev1_5_1
  subst ey1_5_1
  obtain ⟨a1_5_2, ev1_5_2, ey1_5_2, w1_5_2⟩ := DataW.trod_int Try.underlying3 g1_5_2
  obtain rfl : c1_5_2 = _ := by simpa using ev1_5_2
  subst ey1_5_2
  obtain ⟨a1_5_3, ev1_5_3, ey1_5_3, w1_5_3⟩ := DataW.trod_int Try.underlying3 g1_5_3
  obtain rfl : c1_5_3 = _ := by simpa using ev1_5_3
  subst ey1_5_3
  obtain ⟨s1_5_4, ev1_5_4, ey1_5_4, w1_5_4⟩ := DataW.trod_string Try.underlying9 g1_5_4
  obtain rfl : c1_5_4 = _ := by simpa using ev1_5_4
  subst ey1_5_4
  have z1_5_4 : s1_5_4.data.toList.length ≤ 1048576 := bulk_string (bulk_agg hk1_5 (d := .lit (.string s1_5_4.data.toList)) (by simp))
  obtain ⟨a1_5_4, rfl⟩ : ∃ l : List UInt8, s1_5_4 = ⟨l.toArray⟩ := ⟨s1_5_4.data.toList, rfl⟩
  obtain ⟨u1_5_5, a1_5_5, ev1_5_5, w1_5_5, e1_5_5⟩ := open_texts_at Try.underlying27 Try.underlying9 (by kernel_rfl) g1_5_5 (fun x hx => hlt x (by simp [hx]))
  obtain rfl : c1_5_5 = _ := by simpa using ev1_5_5
  have z1_5_5 := bulk_texts e1_5_5 (bulk_agg hk1_5 (by simp))
  obtain ⟨cs2, rfl, hcz2⟩ := okWide_struct Try.underlying31 (hval 2 31 v2 rfl rfl)
  rw [cellscopyhold_api_Rsp] at hcz2
  obtain ⟨c2_0, c2_1, c2_2, c2_3, c2_4, c2_5_0, c2_5_1, c2_5_2, c2_5_3, c2_5_4, c2_5_5, rfl⟩ := array11_of hcz2
  obtain ⟨fuel2, hf2⟩ := h2
  obtain ⟨xs2, m2, _, hx2, _, hlen2, hfl2⟩ := DataW.trod_struct Try.underlying31 hf2
  obtain ⟨y2_0, y2_1, y2_2, y2_3, y2_4, y2_5, rfl⟩ := list6 hlen2
  have g2_0 : DataW.trod enc Try.prog W 0 (fun _ => true) true m2 3 [c2_0] = some y2_0 := by have h := hfl2 0 _ rfl; simpa [Value.cells, cellsint] using h
  have g2_1 : DataW.trod enc Try.prog W 0 (fun _ => true) true m2 3 [c2_1] = some y2_1 := by have h := hfl2 1 _ rfl; simpa [Value.cells, cellsint] using h
  have g2_2 : DataW.trod enc Try.prog W 0 (fun _ => true) true m2 3 [c2_2] = some y2_2 := by have h := hfl2 2 _ rfl; simpa [Value.cells, cellsint] using h
  have g2_3 : DataW.trod enc Try.prog W 0 (fun _ => true) true m2 3 [c2_3] = some y2_3 := by have h := hfl2 3 _ rfl; simpa [Value.cells, cellsint] using h
  have g2_4 : DataW.trod enc Try.prog W 0 (fun _ => true) true m2 3 [c2_4] = some y2_4 := by have h := hfl2 4 _ rfl; simpa [Value.cells, cellsint] using h
  have g2_5 : DataW.trod enc Try.prog W 0 (fun _ => true) true m2 29 [c2_5_0, c2_5_1, c2_5_2, c2_5_3, c2_5_4, c2_5_5] = some y2_5 := by have h := hfl2 5 _ rfl; simpa [Value.cells, cellscopyhold_api_Reply] using h
  simp only [Prod.mk.injEq] at hx2
  obtain ⟨rfl, hp2⟩ := hx2
  subst hp2
  have hk2 := bulk_le hk (d := .agg [y2_0.1, y2_1.1, y2_2.1, y2_3.1, y2_4.1, y2_5.1]) (by simp)
  obtain ⟨a2_0, ev2_0, ey2_0, w2_0⟩ := DataW.trod_int Try.underlying3 g2_0
  obtain rfl : c2_0 = _ := by simpa using ev2_0
  subst ey2_0
  obtain ⟨a2_1, ev2_1, ey2_1, w2_1⟩ := DataW.trod_int Try.underlying3 g2_1
  obtain rfl : c2_1 = _ := by simpa using ev2_1
  subst ey2_1
  obtain ⟨a2_2, ev2_2, ey2_2, w2_2⟩ := DataW.trod_int Try.underlying3 g2_2
  obtain rfl : c2_2 = _ := by simpa using ev2_2
  subst ey2_2
  obtain ⟨a2_3, ev2_3, ey2_3, w2_3⟩ := DataW.trod_int Try.underlying3 g2_3
  obtain rfl : c2_3 = _ := by simpa using ev2_3
  subst ey2_3
  obtain ⟨a2_4, ev2_4, ey2_4, w2_4⟩ := DataW.trod_int Try.underlying3 g2_4
  obtain rfl : c2_4 = _ := by simpa using ev2_4
  subst ey2_4
  obtain ⟨xs2_5, m2_5, _, hx2_5, _, hlen2_5, hfl2_5⟩ := DataW.trod_struct Try.underlying29 g2_5
  obtain ⟨y2_5_0, y2_5_1, y2_5_2, y2_5_3, y2_5_4, y2_5_5, rfl⟩ := list6 hlen2_5
  have g2_5_0 : DataW.trod enc Try.prog W 0 (fun _ => true) true m2_5 26 [c2_5_0] = some y2_5_0 := by have h := hfl2_5 0 _ rfl; simpa [Value.cells, cellscopyhold_api_Errno] using h
  have g2_5_1 : DataW.trod enc Try.prog W 0 (fun _ => true) true m2_5 3 [c2_5_1] = some y2_5_1 := by have h := hfl2_5 1 _ rfl; simpa [Value.cells, cellsint] using h
  have g2_5_2 : DataW.trod enc Try.prog W 0 (fun _ => true) true m2_5 3 [c2_5_2] = some y2_5_2 := by have h := hfl2_5 2 _ rfl; simpa [Value.cells, cellsint] using h
  have g2_5_3 : DataW.trod enc Try.prog W 0 (fun _ => true) true m2_5 3 [c2_5_3] = some y2_5_3 := by have h := hfl2_5 3 _ rfl; simpa [Value.cells, cellsint] using h
  have g2_5_4 : DataW.trod enc Try.prog W 0 (fun _ => true) true m2_5 9 [c2_5_4] = some y2_5_4 := by have h := hfl2_5 4 _ rfl; simpa [Value.cells, cellsstring] using h
  have g2_5_5 : DataW.trod enc Try.prog W 0 (fun _ => true) true m2_5 27 [c2_5_5] = some y2_5_5 := by have h := hfl2_5 5 _ rfl; simpa [Value.cells, cells__string] using h
  subst hx2_5
  have hk2_5 := bulk_agg hk2 (d := .agg [y2_5_0.1, y2_5_1.1, y2_5_2.1, y2_5_3.1, y2_5_4.1, y2_5_5.1]) (by simp)
  obtain ⟨a2_5_0, ev2_5_0, ey2_5_0, w2_5_0⟩ := DataW.trod_int Try.underlying26 g2_5_0
  obtain rfl : c2_5_0 = _ := by simpa using ev2_5_0
  subst ey2_5_0
  obtain ⟨a2_5_1, ev2_5_1, ey2_5_1, w2_5_1⟩ := DataW.trod_int Try.underlying3 g2_5_1
  obtain rfl : c2_5_1 = _ := by simpa using ev2_5_1
  subst ey2_5_1
  obtain ⟨a2_5_2, ev2_5_2, ey2_5_2, w2_5_2⟩ := DataW.trod_int Try.underlying3 g2_5_2
  obtain rfl : c2_5_2 = _ := by simpa using ev2_5_2
  subst ey2_5_2
  obtain ⟨a2_5_3, ev2_5_3, ey2_5_3, w2_5_3⟩ := DataW.trod_int Try.underlying3 g2_5_3
  obtain rfl : c2_5_3 = _ := by simpa using ev2_5_3
  subst ey2_5_3
  obtain ⟨s2_5_4, ev2_5_4, ey2_5_4, w2_5_4⟩ := DataW.trod_string Try.underlying9 g2_5_4
  obtain rfl : c2_5_4 = _ := by simpa using ev2_5_4
  subst ey2_5_4
  have z2_5_4 : s2_5_4.data.toList.length ≤ 1048576 := bulk_string (bulk_agg hk2_5 (d := .lit (.string s2_5_4.data.toList)) (by simp))
  obtain ⟨a2_5_4, rfl⟩ : ∃ l : List UInt8, s2_5_4 = ⟨l.toArray⟩ := ⟨s2_5_4.data.toList, rfl⟩
  obtain ⟨u2_5_5, a2_5_5, ev2_5_5, w2_5_5, e2_5_5⟩ := open_texts_at Try.underlying27 Try.underlying9 (by kernel_rfl) g2_5_5 (fun x hx => hlt x (by simp [hx]))
  obtain rfl : c2_5_5 = _ := by simpa using ev2_5_5
  have z2_5_5 := bulk_texts e2_5_5 (bulk_agg hk2_5 (by simp))
  refine (walk W a0_0 w0_0 a0_1 w0_1 a0_2 w0_2 a0_3 w0_3 a0_4 w0_4 a0_5 w0_5 a0_6_0 w0_6_0 a0_6_1 w0_6_1 a0_6_2 w0_6_2 a0_6_3 w0_6_3 a0_6_4 w0_6_4 a0_6_5 z0_6_5 a0_6_6 z0_6_6 a0_6_7 z0_6_7 a1_0 w1_0 a1_1 w1_1 a1_2 w1_2 a1_3 w1_3 a1_4 w1_4 a1_5_0 w1_5_0 a1_5_1 w1_5_1 a1_5_2 w1_5_2 a1_5_3 w1_5_3 a1_5_4 z1_5_4 c1_5_5 a1_5_5 w1_5_5 z1_5_5 a2_0 w2_0 a2_1 w2_1 a2_2 w2_2 a2_3 w2_3 a2_4 w2_4 a2_5_0 w2_5_0 a2_5_1 w2_5_1 a2_5_2 w2_5_2 a2_5_3 w2_5_3 a2_5_4 z2_5_4 c2_5_5 a2_5_5 w2_5_5 z2_5_5).mono fun e W' ⟨he, hg⟩ => ?_
  subst he
  exact ⟨_, rfl, Copyhold.law_post laidOut (by kernel_rfl) (by kernel_rfl) Try.underlying4 rfl rfl rfl rfl hW' hg⟩

theorem over : Rows.wireLaysUptoRow.holds Try.pinned (Rows.OpenSpec.upto Rows.wireLaysSpec) :=
  OpenClaim.holds_of_cond 3 Try.f3 rfl rfl rfl rfl rfl rfl rfl ⟨rfl, rfl, rfl, rfl, rfl⟩ rfl rfl rfl rfl rfl (by kernel_rfl) Try.func3 (by kernel_rfl)
    (of_decide_eq_true (by kernel_rfl)) (by unfold Func.isWrapper; first | (rw [if_pos (by decide +kernel)]; kernel_rfl) | (rw [if_neg (by decide +kernel)]; exact ⟨rfl, rfl⟩))
    (fun os started H enc _ F => lifted os started H enc F)

theorem proved : Rows.WireLaysUptoSaid :=
  over
end Go.Proofs.Ytpojhcpkmpbflaa.wireLays
