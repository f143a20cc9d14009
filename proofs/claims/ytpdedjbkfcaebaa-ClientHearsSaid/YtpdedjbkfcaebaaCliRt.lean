/- client.job, rightTold, rightCalls, Right: they answer as the document says; old memory is as it was. -/
import Derived.Test.YtpdedjbkfcaebaaCliFew
set_option linter.unusedVariables false
set_option linter.unusedSimpArgs false
namespace Go.Proofs.Ytpdedjbkfcaebaa
open Go.RowKit Copyhold
def jobOf (c : Cli) : List Cal := if 1 ≤ c.seq ∧ c.seq ≤ (c.jobs.length : Int) then c.jobs.getD (c.seq - 1).toNat [] else []
def RT (c : Cli) : Prop := (c.phase = 3 ∧ (c.told.length : Int) = c.seq ∧ (c.told.length : Int) ≤ (c.jobs.length : Int)) ∨ (c.phase = 4 ∧ (c.told.length : Int) = c.seq - 1 ∧ (c.told.length : Int) = (c.jobs.length : Int)) ∨ ((c.phase = 0 ∨ c.phase = 1 ∨ c.phase = 2) ∧ (c.told.length : Int) = c.seq - 1 ∧ (c.told.length : Int) < (c.jobs.length : Int))
instance (c : Cli) : Decidable (RT c) := by unfold RT; infer_instance
def RC (c : Cli) : Prop := (c.phase = 1 ∧ c.n < ((jobOf c).length : Int)) ∨ (c.phase = 2 ∧ c.n = ((jobOf c).length : Int)) ∨ (c.phase ≠ 1 ∧ c.phase ≠ 2 ∧ c.n = 0 ∧ c.stamp = 0)
instance (c : Cli) : Decidable (RC c) := by unfold RC; infer_instance
def Seqs (l : List Don) : Prop := ∀ i (h : i < l.length), l[i].seq = (i : Int) + 1
instance (l : List Don) : Decidable (Seqs l) := by unfold Seqs; infer_instance
def RightP (c : Cli) : Prop := 0 ≤ c.me ∧ 1 ≤ c.epoch ∧ 1 ≤ c.seq ∧ (c.now.length : Int) = c.n ∧ Seqs c.told ∧ RT c ∧ RC c
instance (c : Cli) : Decidable (RightP c) := by unfold RightP; infer_instance
def RetCals (w : World) (l : List Cal) (e : Ending) (w' : World) : Prop := ∃ A c, e = .returned (.slice A l.length c) ∧ CalsIn w' (.slice A l.length c) l ∧ Below w.heap.size w w'
theorem jobOf_none {c : Cli} (h : ¬ (1 ≤ c.seq ∧ c.seq ≤ (c.jobs.length : Int))) : jobOf c = [] := if_neg h
theorem jobOf_some {c : Cli} (i : Nat) (hi : i < c.jobs.length) (h : c.seq = (i : Int) + 1) : jobOf c = c.jobs[i] := by
  unfold jobOf
  rw [if_pos (by omega), show (c.seq - 1).toNat = i by omega]
  simp [List.getD, hi]
set_option maxRecDepth 100000 in
set_option maxHeartbeats 4000000 in
theorem client_job (x : Cli) (v : Value) (w : World) (hx : CliV w v x) :
    Calls Try.prog 48 #[v] w (RetCals w (jobOf x)) := by
  obtain ⟨jv, tv, nv, rfl, hx⟩ := hx
  obtain ⟨XJ, Xj, XT, Xt, XN, Xn, rfl, rfl, rfl⟩ := hx.shape
  obtain ⟨⟨⟨me1, me2⟩, ⟨ep1, ep2⟩, ⟨sq1, sq2⟩, ⟨ph1, ph2⟩, ⟨nn1, nn2⟩, ⟨st1, st2⟩⟩, ojx, otx, onx⟩ := id hx.ok
  obtain ⟨W0, hW⟩ : ∃ W, W = w.alloc (.cells #[.int .i64 x.me, .int .i64 x.epoch, .int .i64 x.seq, .slice XJ x.jobs.length Xj, .int .i64 x.phase, .int .i64 x.n, .int .i64 x.stamp, .slice XT x.told.length Xt, .slice XN x.now.length Xn] 26) := ⟨_, rfl⟩
  have hb : Below w.heap.size w W0 := by rw [hW]; exact (Below.refl _ _).alloc (Nat.le_refl _) _
  have hp0 : ∀ j v, (#[.int .i64 x.me, .int .i64 x.epoch, .int .i64 x.seq, .slice XJ x.jobs.length Xj, .int .i64 x.phase, .int .i64 x.n, .int .i64 x.stamp, .slice XT x.told.length Xt, .slice XN x.now.length Xn] : Array Value)[j]? = some v → W0.cell? ⟨w.heap.size, j, none⟩ = some v := fun j v h => by
    rw [hW]
    have := cell_new (w) #[.int .i64 x.me, .int .i64 x.epoch, .int .i64 x.seq, .slice XJ x.jobs.length Xj, .int .i64 x.phase, .int .i64 x.n, .int .i64 x.stamp, .slice XT x.told.length Xt, .slice XN x.now.length Xn] 26 j
    exact by rw [this]; exact h
  have px0 : W0.cell? ⟨w.heap.size, 0, none⟩ = some (.int .i64 x.me) := hp0 0 _ rfl
  have px1 : W0.cell? ⟨w.heap.size, 1, none⟩ = some (.int .i64 x.epoch) := hp0 1 _ rfl
  have px2 : W0.cell? ⟨w.heap.size, 2, none⟩ = some (.int .i64 x.seq) := hp0 2 _ rfl
  have px3 : W0.cell? ⟨w.heap.size, 3, none⟩ = some (.slice XJ x.jobs.length Xj) := hp0 3 _ rfl
  have px4 : W0.cell? ⟨w.heap.size, 4, none⟩ = some (.int .i64 x.phase) := hp0 4 _ rfl
  have px5 : W0.cell? ⟨w.heap.size, 5, none⟩ = some (.int .i64 x.n) := hp0 5 _ rfl
  have px6 : W0.cell? ⟨w.heap.size, 6, none⟩ = some (.int .i64 x.stamp) := hp0 6 _ rfl
  have px7 : W0.cell? ⟨w.heap.size, 7, none⟩ = some (.slice XT x.told.length Xt) := hp0 7 _ rfl
  have px8 : W0.cell? ⟨w.heap.size, 8, none⟩ = some (.slice XN x.now.length Xn) := hp0 8 _ rfl
  have HX := Lib.hid (hx.below hb)
  have HW := Lib.hid hW
  have HB := Lib.hid hb
  clear hx hb hW hp0
  unfold cliC
  by_cases g1 : x.seq < 1
  · have HJ := Lib.hid (jobOf_none (c := x) (by omega))
    skip
    go_enter Try.func48, Try.ntmps48
    go_wp2_with fail
    rw [← HW.out]
    go_ret
    exact ⟨none, 0, by rw [HJ.out]; rfl, by rw [HJ.out]; exact ⟨[], Sl.nil _ _, rfl, fun i cs a h => (by simp at h)⟩, HB.out⟩
  · have r1 : 1 ≤ x.seq := by omega
    by_cases g0 : (x.jobs.length : Int) < x.seq
    · have HJ := Lib.hid (jobOf_none (c := x) (by omega))
      skip
      go_enter Try.func48, Try.ntmps48
      go_wp2_with fail
      rw [← HW.out]
      go_ret
      exact ⟨none, 0, by rw [HJ.out]; rfl, by rw [HJ.out]; exact ⟨[], Sl.nil _ _, rfl, fun i cs a h => (by simp at h)⟩, HB.out⟩
    · have r0 : x.seq ≤ (x.jobs.length : Int) := by omega
      obtain ⟨i, hi⟩ : ∃ i : Nat, x.seq = (i : Int) + 1 := ⟨(x.seq - 1).toNat, by omega⟩
      have hil : i < x.jobs.length := by omega
      have HJ := Lib.hid (jobOf_some i hil hi)
      obtain ⟨b1, o1, A1, c1', rfl, hb1, k0, hs1, ok1⟩ := HX.out.jobs.at i hil
      have HS := Lib.hid hs1
      generalize x.jobs[i] = u at *
      have hi1 : x.seq - 1 = (i : Int) := by omega
      have hi2 : (i : Int) < (x.jobs.length : Int) := by omega
      have hi0 : (0 : Int) ≤ (i : Int) := by omega
      rw [HW.out] at k0
      clear hs1 hi
      skip
      go_enter Try.func48, Try.ntmps48
      go_wp2_with fail
      rw [← HW.out]
      go_ret
      exact ⟨A1, c1', by rw [HJ.out]; rfl, by rw [HJ.out]; exact HS.out, HB.out⟩
set_option maxRecDepth 100000 in
set_option maxHeartbeats 4000000 in
theorem client_rightTold (x : Cli) (v : Value) (w : World) (hx : CliV w v x) (hs1 : 1 ≤ x.seq) :
    Calls Try.prog 44 #[v] w (fun e w' => e = .returned (.bool (decide (RT x))) ∧ Below w.heap.size w w') := by
  obtain ⟨jv, tv, nv, rfl, hx⟩ := hx
  obtain ⟨XJ, Xj, XT, Xt, XN, Xn, rfl, rfl, rfl⟩ := hx.shape
  obtain ⟨⟨⟨me1, me2⟩, ⟨ep1, ep2⟩, ⟨sq1, sq2⟩, ⟨ph1, ph2⟩, ⟨nn1, nn2⟩, ⟨st1, st2⟩⟩, ojx, otx, onx⟩ := id hx.ok
  have hw1 : -9223372036854775808 ≤ x.seq - 1 := by omega
  obtain ⟨W0, hW⟩ : ∃ W, W = w.alloc (.cells #[.int .i64 x.me, .int .i64 x.epoch, .int .i64 x.seq, .slice XJ x.jobs.length Xj, .int .i64 x.phase, .int .i64 x.n, .int .i64 x.stamp, .slice XT x.told.length Xt, .slice XN x.now.length Xn] 26) := ⟨_, rfl⟩
  have hb : Below w.heap.size w W0 := by rw [hW]; exact (Below.refl _ _).alloc (Nat.le_refl _) _
  have hp0 : ∀ j v, (#[.int .i64 x.me, .int .i64 x.epoch, .int .i64 x.seq, .slice XJ x.jobs.length Xj, .int .i64 x.phase, .int .i64 x.n, .int .i64 x.stamp, .slice XT x.told.length Xt, .slice XN x.now.length Xn] : Array Value)[j]? = some v → W0.cell? ⟨w.heap.size, j, none⟩ = some v := fun j v h => by
    rw [hW]
    have := cell_new (w) #[.int .i64 x.me, .int .i64 x.epoch, .int .i64 x.seq, .slice XJ x.jobs.length Xj, .int .i64 x.phase, .int .i64 x.n, .int .i64 x.stamp, .slice XT x.told.length Xt, .slice XN x.now.length Xn] 26 j
    exact by rw [this]; exact h
  have px0 : W0.cell? ⟨w.heap.size, 0, none⟩ = some (.int .i64 x.me) := hp0 0 _ rfl
  have px1 : W0.cell? ⟨w.heap.size, 1, none⟩ = some (.int .i64 x.epoch) := hp0 1 _ rfl
  have px2 : W0.cell? ⟨w.heap.size, 2, none⟩ = some (.int .i64 x.seq) := hp0 2 _ rfl
  have px3 : W0.cell? ⟨w.heap.size, 3, none⟩ = some (.slice XJ x.jobs.length Xj) := hp0 3 _ rfl
  have px4 : W0.cell? ⟨w.heap.size, 4, none⟩ = some (.int .i64 x.phase) := hp0 4 _ rfl
  have px5 : W0.cell? ⟨w.heap.size, 5, none⟩ = some (.int .i64 x.n) := hp0 5 _ rfl
  have px6 : W0.cell? ⟨w.heap.size, 6, none⟩ = some (.int .i64 x.stamp) := hp0 6 _ rfl
  have px7 : W0.cell? ⟨w.heap.size, 7, none⟩ = some (.slice XT x.told.length Xt) := hp0 7 _ rfl
  have px8 : W0.cell? ⟨w.heap.size, 8, none⟩ = some (.slice XN x.now.length Xn) := hp0 8 _ rfl
  have HX := Lib.hid (hx.below hb)
  have HW := Lib.hid hW
  have HB := Lib.hid hb
  clear hx hb hW hp0
  unfold cliC
  by_cases g14 : x.phase = 3
  · have q14 : (x.phase == 3) = true := by rw [g14]; simp
    have r14 : (x.phase != 3) = false := by rw [g14]; simp
    by_cases g1 : (x.told.length : Int) = x.seq
    · have q1 : ((x.told.length : Int) == x.seq) = true := by rw [g1]; simp
      have r1 : ((x.told.length : Int) != x.seq) = false := by rw [g1]; simp
      by_cases g0 : (x.told.length : Int) ≤ (x.jobs.length : Int)
      · have HF := Lib.hid (show decide (RT x) = true from decide_eq_true (by unfold RT; omega))
        try clear g1
        try clear g2
        try clear g3
        try clear g5
        try clear g7
        try clear g9
        try clear g10
        try clear g11
        try clear g12
        try clear g13
        try clear g14
        go_enter Try.func44, Try.ntmps44
        go_wp2_with fail
        rw [← HW.out]
        go_ret
        exact ⟨by rw [HF.out]; rfl, HB.out⟩
      · have r0 : (x.jobs.length : Int) < (x.told.length : Int) := by omega
        have HF := Lib.hid (show decide (RT x) = false from decide_eq_false (by unfold RT; omega))
        try clear g1
        try clear g2
        try clear g3
        try clear g5
        try clear g7
        try clear g9
        try clear g10
        try clear g11
        try clear g12
        try clear g13
        try clear g14
        go_enter Try.func44, Try.ntmps44
        go_wp2_with fail
        rw [← HW.out]
        go_ret
        exact ⟨by rw [HF.out]; rfl, HB.out⟩
    · have q1 : ((x.told.length : Int) == x.seq) = false := by rw [beq_eq_false_iff_ne]; exact g1
      have r1 : ((x.told.length : Int) != x.seq) = true := by rw [bne_iff_ne]; exact g1
      have HF := Lib.hid (show decide (RT x) = false from decide_eq_false (by unfold RT; omega))
      try clear g1
      try clear g2
      try clear g3
      try clear g5
      try clear g7
      try clear g9
      try clear g10
      try clear g11
      try clear g12
      try clear g13
      try clear g14
      go_enter Try.func44, Try.ntmps44
      go_wp2_with fail
      rw [← HW.out]
      go_ret
      exact ⟨by rw [HF.out]; rfl, HB.out⟩
  · have q14 : (x.phase == 3) = false := by rw [beq_eq_false_iff_ne]; exact g14
    have r14 : (x.phase != 3) = true := by rw [bne_iff_ne]; exact g14
    by_cases g13 : x.phase = 4
    · have q13 : (x.phase == 4) = true := by rw [g13]; simp
      have r13 : (x.phase != 4) = false := by rw [g13]; simp
      by_cases g3 : (x.told.length : Int) = x.seq - 1
      · have q3 : ((x.told.length : Int) == x.seq - 1) = true := by rw [g3]; simp
        have r3 : ((x.told.length : Int) != x.seq - 1) = false := by rw [g3]; simp
        by_cases g2 : (x.told.length : Int) = (x.jobs.length : Int)
        · have q2 : ((x.told.length : Int) == (x.jobs.length : Int)) = true := by rw [g2]; simp
          have r2 : ((x.told.length : Int) != (x.jobs.length : Int)) = false := by rw [g2]; simp
          have HF := Lib.hid (show decide (RT x) = true from decide_eq_true (by unfold RT; omega))
          try clear g1
          try clear g2
          try clear g3
          try clear g5
          try clear g7
          try clear g9
          try clear g10
          try clear g11
          try clear g12
          try clear g13
          try clear g14
          go_enter Try.func44, Try.ntmps44
          go_wp2_with fail
          rw [← HW.out]
          go_ret
          exact ⟨by rw [HF.out]; rfl, HB.out⟩
        · have q2 : ((x.told.length : Int) == (x.jobs.length : Int)) = false := by rw [beq_eq_false_iff_ne]; exact g2
          have r2 : ((x.told.length : Int) != (x.jobs.length : Int)) = true := by rw [bne_iff_ne]; exact g2
          have HF := Lib.hid (show decide (RT x) = false from decide_eq_false (by unfold RT; omega))
          try clear g1
          try clear g2
          try clear g3
          try clear g5
          try clear g7
          try clear g9
          try clear g10
          try clear g11
          try clear g12
          try clear g13
          try clear g14
          go_enter Try.func44, Try.ntmps44
          go_wp2_with fail
          rw [← HW.out]
          go_ret
          exact ⟨by rw [HF.out]; rfl, HB.out⟩
      · have q3 : ((x.told.length : Int) == x.seq - 1) = false := by rw [beq_eq_false_iff_ne]; exact g3
        have r3 : ((x.told.length : Int) != x.seq - 1) = true := by rw [bne_iff_ne]; exact g3
        have HF := Lib.hid (show decide (RT x) = false from decide_eq_false (by unfold RT; omega))
        try clear g1
        try clear g2
        try clear g3
        try clear g5
        try clear g7
        try clear g9
        try clear g10
        try clear g11
        try clear g12
        try clear g13
        try clear g14
        go_enter Try.func44, Try.ntmps44
        go_wp2_with fail
        rw [← HW.out]
        go_ret
        exact ⟨by rw [HF.out]; rfl, HB.out⟩
    · have q13 : (x.phase == 4) = false := by rw [beq_eq_false_iff_ne]; exact g13
      have r13 : (x.phase != 4) = true := by rw [bne_iff_ne]; exact g13
      by_cases g12 : x.phase = 0
      · have q12 : (x.phase == 0) = true := by rw [g12]; simp
        have r12 : (x.phase != 0) = false := by rw [g12]; simp
        by_cases g5 : (x.told.length : Int) = x.seq - 1
        · have q5 : ((x.told.length : Int) == x.seq - 1) = true := by rw [g5]; simp
          have r5 : ((x.told.length : Int) != x.seq - 1) = false := by rw [g5]; simp
          by_cases g4 : (x.told.length : Int) < (x.jobs.length : Int)
          · have HF := Lib.hid (show decide (RT x) = true from decide_eq_true (by unfold RT; omega))
            try clear g1
            try clear g2
            try clear g3
            try clear g5
            try clear g7
            try clear g9
            try clear g10
            try clear g11
            try clear g12
            try clear g13
            try clear g14
            go_enter Try.func44, Try.ntmps44
            go_wp2_with fail
            rw [← HW.out]
            go_ret
            exact ⟨by rw [HF.out]; rfl, HB.out⟩
          · have r4 : (x.jobs.length : Int) ≤ (x.told.length : Int) := by omega
            have HF := Lib.hid (show decide (RT x) = false from decide_eq_false (by unfold RT; omega))
            try clear g1
            try clear g2
            try clear g3
            try clear g5
            try clear g7
            try clear g9
            try clear g10
            try clear g11
            try clear g12
            try clear g13
            try clear g14
            go_enter Try.func44, Try.ntmps44
            go_wp2_with fail
            rw [← HW.out]
            go_ret
            exact ⟨by rw [HF.out]; rfl, HB.out⟩
        · have q5 : ((x.told.length : Int) == x.seq - 1) = false := by rw [beq_eq_false_iff_ne]; exact g5
          have r5 : ((x.told.length : Int) != x.seq - 1) = true := by rw [bne_iff_ne]; exact g5
          have HF := Lib.hid (show decide (RT x) = false from decide_eq_false (by unfold RT; omega))
          try clear g1
          try clear g2
          try clear g3
          try clear g5
          try clear g7
          try clear g9
          try clear g10
          try clear g11
          try clear g12
          try clear g13
          try clear g14
          go_enter Try.func44, Try.ntmps44
          go_wp2_with fail
          rw [← HW.out]
          go_ret
          exact ⟨by rw [HF.out]; rfl, HB.out⟩
      · have q12 : (x.phase == 0) = false := by rw [beq_eq_false_iff_ne]; exact g12
        have r12 : (x.phase != 0) = true := by rw [bne_iff_ne]; exact g12
        by_cases g11 : x.phase = 1
        · have q11 : (x.phase == 1) = true := by rw [g11]; simp
          have r11 : (x.phase != 1) = false := by rw [g11]; simp
          by_cases g7 : (x.told.length : Int) = x.seq - 1
          · have q7 : ((x.told.length : Int) == x.seq - 1) = true := by rw [g7]; simp
            have r7 : ((x.told.length : Int) != x.seq - 1) = false := by rw [g7]; simp
            by_cases g6 : (x.told.length : Int) < (x.jobs.length : Int)
            · have HF := Lib.hid (show decide (RT x) = true from decide_eq_true (by unfold RT; omega))
              try clear g1
              try clear g2
              try clear g3
              try clear g5
              try clear g7
              try clear g9
              try clear g10
              try clear g11
              try clear g12
              try clear g13
              try clear g14
              go_enter Try.func44, Try.ntmps44
              go_wp2_with fail
              rw [← HW.out]
              go_ret
              exact ⟨by rw [HF.out]; rfl, HB.out⟩
            · have r6 : (x.jobs.length : Int) ≤ (x.told.length : Int) := by omega
              have HF := Lib.hid (show decide (RT x) = false from decide_eq_false (by unfold RT; omega))
              try clear g1
              try clear g2
              try clear g3
              try clear g5
              try clear g7
              try clear g9
              try clear g10
              try clear g11
              try clear g12
              try clear g13
              try clear g14
              go_enter Try.func44, Try.ntmps44
              go_wp2_with fail
              rw [← HW.out]
              go_ret
              exact ⟨by rw [HF.out]; rfl, HB.out⟩
          · have q7 : ((x.told.length : Int) == x.seq - 1) = false := by rw [beq_eq_false_iff_ne]; exact g7
            have r7 : ((x.told.length : Int) != x.seq - 1) = true := by rw [bne_iff_ne]; exact g7
            have HF := Lib.hid (show decide (RT x) = false from decide_eq_false (by unfold RT; omega))
            try clear g1
            try clear g2
            try clear g3
            try clear g5
            try clear g7
            try clear g9
            try clear g10
            try clear g11
            try clear g12
            try clear g13
            try clear g14
            go_enter Try.func44, Try.ntmps44
            go_wp2_with fail
            rw [← HW.out]
            go_ret
            exact ⟨by rw [HF.out]; rfl, HB.out⟩
        · have q11 : (x.phase == 1) = false := by rw [beq_eq_false_iff_ne]; exact g11
          have r11 : (x.phase != 1) = true := by rw [bne_iff_ne]; exact g11
          by_cases g10 : x.phase = 2
          · have q10 : (x.phase == 2) = true := by rw [g10]; simp
            have r10 : (x.phase != 2) = false := by rw [g10]; simp
            by_cases g9 : (x.told.length : Int) = x.seq - 1
            · have q9 : ((x.told.length : Int) == x.seq - 1) = true := by rw [g9]; simp
              have r9 : ((x.told.length : Int) != x.seq - 1) = false := by rw [g9]; simp
              by_cases g8 : (x.told.length : Int) < (x.jobs.length : Int)
              · have HF := Lib.hid (show decide (RT x) = true from decide_eq_true (by unfold RT; omega))
                try clear g1
                try clear g2
                try clear g3
                try clear g5
                try clear g7
                try clear g9
                try clear g10
                try clear g11
                try clear g12
                try clear g13
                try clear g14
                go_enter Try.func44, Try.ntmps44
                go_wp2_with fail
                rw [← HW.out]
                go_ret
                exact ⟨by rw [HF.out]; rfl, HB.out⟩
              · have r8 : (x.jobs.length : Int) ≤ (x.told.length : Int) := by omega
                have HF := Lib.hid (show decide (RT x) = false from decide_eq_false (by unfold RT; omega))
                try clear g1
                try clear g2
                try clear g3
                try clear g5
                try clear g7
                try clear g9
                try clear g10
                try clear g11
                try clear g12
                try clear g13
                try clear g14
                go_enter Try.func44, Try.ntmps44
                go_wp2_with fail
                rw [← HW.out]
                go_ret
                exact ⟨by rw [HF.out]; rfl, HB.out⟩
            · have q9 : ((x.told.length : Int) == x.seq - 1) = false := by rw [beq_eq_false_iff_ne]; exact g9
              have r9 : ((x.told.length : Int) != x.seq - 1) = true := by rw [bne_iff_ne]; exact g9
              have HF := Lib.hid (show decide (RT x) = false from decide_eq_false (by unfold RT; omega))
              try clear g1
              try clear g2
              try clear g3
              try clear g5
              try clear g7
              try clear g9
              try clear g10
              try clear g11
              try clear g12
              try clear g13
              try clear g14
              go_enter Try.func44, Try.ntmps44
              go_wp2_with fail
              rw [← HW.out]
              go_ret
              exact ⟨by rw [HF.out]; rfl, HB.out⟩
          · have q10 : (x.phase == 2) = false := by rw [beq_eq_false_iff_ne]; exact g10
            have r10 : (x.phase != 2) = true := by rw [bne_iff_ne]; exact g10
            have HF := Lib.hid (show decide (RT x) = false from decide_eq_false (by unfold RT; omega))
            try clear g1
            try clear g2
            try clear g3
            try clear g5
            try clear g7
            try clear g9
            try clear g10
            try clear g11
            try clear g12
            try clear g13
            try clear g14
            go_enter Try.func44, Try.ntmps44
            go_wp2_with fail
            rw [← HW.out]
            go_ret
            exact ⟨by rw [HF.out]; rfl, HB.out⟩
set_option maxRecDepth 100000 in
set_option maxHeartbeats 4000000 in
theorem client_rightCalls (x : Cli) (v : Value) (w : World) (hx : CliV w v x) :
    Calls Try.prog 45 #[v] w (fun e w' => e = .returned (.bool (decide (RC x))) ∧ Below w.heap.size w w') := by
  obtain ⟨jv, tv, nv, rfl, hx⟩ := hx
  obtain ⟨XJ, Xj, XT, Xt, XN, Xn, rfl, rfl, rfl⟩ := hx.shape
  obtain ⟨⟨⟨me1, me2⟩, ⟨ep1, ep2⟩, ⟨sq1, sq2⟩, ⟨ph1, ph2⟩, ⟨nn1, nn2⟩, ⟨st1, st2⟩⟩, ojx, otx, onx⟩ := id hx.ok
  obtain ⟨W0, hW⟩ : ∃ W, W = w.alloc (.cells #[.int .i64 x.me, .int .i64 x.epoch, .int .i64 x.seq, .slice XJ x.jobs.length Xj, .int .i64 x.phase, .int .i64 x.n, .int .i64 x.stamp, .slice XT x.told.length Xt, .slice XN x.now.length Xn] 26) := ⟨_, rfl⟩
  have hb : Below w.heap.size w W0 := by rw [hW]; exact (Below.refl _ _).alloc (Nat.le_refl _) _
  have hp0 : ∀ j v, (#[.int .i64 x.me, .int .i64 x.epoch, .int .i64 x.seq, .slice XJ x.jobs.length Xj, .int .i64 x.phase, .int .i64 x.n, .int .i64 x.stamp, .slice XT x.told.length Xt, .slice XN x.now.length Xn] : Array Value)[j]? = some v → W0.cell? ⟨w.heap.size, j, none⟩ = some v := fun j v h => by
    rw [hW]
    have := cell_new (w) #[.int .i64 x.me, .int .i64 x.epoch, .int .i64 x.seq, .slice XJ x.jobs.length Xj, .int .i64 x.phase, .int .i64 x.n, .int .i64 x.stamp, .slice XT x.told.length Xt, .slice XN x.now.length Xn] 26 j
    exact by rw [this]; exact h
  have px0 : W0.cell? ⟨w.heap.size, 0, none⟩ = some (.int .i64 x.me) := hp0 0 _ rfl
  have px1 : W0.cell? ⟨w.heap.size, 1, none⟩ = some (.int .i64 x.epoch) := hp0 1 _ rfl
  have px2 : W0.cell? ⟨w.heap.size, 2, none⟩ = some (.int .i64 x.seq) := hp0 2 _ rfl
  have px3 : W0.cell? ⟨w.heap.size, 3, none⟩ = some (.slice XJ x.jobs.length Xj) := hp0 3 _ rfl
  have px4 : W0.cell? ⟨w.heap.size, 4, none⟩ = some (.int .i64 x.phase) := hp0 4 _ rfl
  have px5 : W0.cell? ⟨w.heap.size, 5, none⟩ = some (.int .i64 x.n) := hp0 5 _ rfl
  have px6 : W0.cell? ⟨w.heap.size, 6, none⟩ = some (.int .i64 x.stamp) := hp0 6 _ rfl
  have px7 : W0.cell? ⟨w.heap.size, 7, none⟩ = some (.slice XT x.told.length Xt) := hp0 7 _ rfl
  have px8 : W0.cell? ⟨w.heap.size, 8, none⟩ = some (.slice XN x.now.length Xn) := hp0 8 _ rfl
  have HX := Lib.hid (hx.below hb)
  have HW := Lib.hid hW
  have HB := Lib.hid hb
  clear hx hb hW hp0
  unfold cliC
  by_cases g3 : x.phase = 1
  · have q3 : (x.phase == 1) = true := by rw [g3]; simp
    have r3 : (x.phase != 1) = false := by rw [g3]; simp
    have HF := Lib.hid (show decide (RC x) = decide (x.n < ((jobOf x).length : Int)) from by rw [Bool.eq_iff_iff]; simp only [decide_eq_true_eq, beq_iff_eq]; unfold RC; omega)
    try clear g0
    try clear g1
    try clear g2
    try clear g3
    go_enter Try.func45, Try.ntmps45
    go_wp2_with fail
    rw [← HW.out]
    refine wp_region_held_drew (S := fun V => Below W0.heap.size W0 V) (by kernel_rfl) (below_dn (Below.refl _ _) 1) (fun hHeld => ?_)
    refine wpAnyH_take (i := 0) (v := ?_) rfl (by kernel_rfl) (by kernel_rfl) (by kernel_rfl) (fun _ _ _ h => h) (Or.inl ⟨by rfl, ?_⟩) (by assumption) ?_
    rotate_left
    · intro X hSw
      go_simp
      try with_reducible rfl
    rotate_left
    try simp only [Act.put, List.setIfInBounds_toArray, List.set_cons_zero, List.set_cons_succ, List.getElem_toArray, List.getElem_cons_zero, List.getElem_cons_succ]
    refine wpAnyH_take (i := 1) (v := ?_) rfl (by kernel_rfl) (by kernel_rfl) (by kernel_rfl) (fun _ _ _ h => h) (Or.inl ⟨by rfl, ?_⟩) (by assumption) ?_
    rotate_left
    · intro X hSw
      have hc0 : X.cell? ⟨w.heap.size, 5, none⟩ = some (.int .i64 x.n) := cell_keep hSw px5
      go_simp
      try with_reducible rfl
    rotate_left
    try simp only [Act.put, List.setIfInBounds_toArray, List.set_cons_zero, List.set_cons_succ, List.getElem_toArray, List.getElem_cons_zero, List.getElem_cons_succ]
    refine wpAnyH_take (i := 2) (v := ?_) rfl (by kernel_rfl) (by kernel_rfl) (by kernel_rfl) (fun _ _ _ h => h) (Or.inl ⟨by rfl, ?_⟩) (by assumption) ?_
    rotate_left
    · intro X hSw
      have hc0 : X.cell? ⟨w.heap.size, 0, none⟩ = some (.int .i64 x.me) := cell_keep hSw px0
      have hc1 : X.cell? ⟨w.heap.size, 1, none⟩ = some (.int .i64 x.epoch) := cell_keep hSw px1
      have hc2 : X.cell? ⟨w.heap.size, 2, none⟩ = some (.int .i64 x.seq) := cell_keep hSw px2
      have hc3 : X.cell? ⟨w.heap.size, 3, none⟩ = some (.slice XJ x.jobs.length Xj) := cell_keep hSw px3
      have hc4 : X.cell? ⟨w.heap.size, 4, none⟩ = some (.int .i64 x.phase) := cell_keep hSw px4
      have hc5 : X.cell? ⟨w.heap.size, 5, none⟩ = some (.int .i64 x.n) := cell_keep hSw px5
      have hc6 : X.cell? ⟨w.heap.size, 6, none⟩ = some (.int .i64 x.stamp) := cell_keep hSw px6
      have hc7 : X.cell? ⟨w.heap.size, 7, none⟩ = some (.slice XT x.told.length Xt) := cell_keep hSw px7
      have hc8 : X.cell? ⟨w.heap.size, 8, none⟩ = some (.slice XN x.now.length Xn) := cell_keep hSw px8
      go_simp
      try with_reducible rfl
    rotate_left
    try simp only [Act.put, List.setIfInBounds_toArray, List.set_cons_zero, List.set_cons_succ, List.getElem_toArray, List.getElem_cons_zero, List.getElem_cons_succ]
    refine wpAnyH_ready (rs := [3]) (by kernel_rfl) (by simp) ?_
    refine (AllReadyH.cons rfl (fun K hK => ?_) AllReadyH.nil)
    rw [if_pos (by rfl)]
    go_wp2_with fail
    refine (client_job x _ _ ⟨_, _, _, rfl, HX.out.below hHeld⟩).mono ?_
    rintro e wq ⟨A5, c5, rfl, -, hb⟩
    replace hHeld := below_trans hHeld hb (Below.size hHeld)
    clear hb
    refine hK.out _ _ hHeld (fun _ => ?_)
    clear hK K
    try simp only [Act.put, List.setIfInBounds_toArray, List.set_cons_zero, List.set_cons_succ, List.getElem_toArray, List.getElem_cons_zero, List.getElem_cons_succ]
    refine wpAnyH_take (i := 4) (v := ?_) rfl (by kernel_rfl) (by kernel_rfl) (by kernel_rfl) (fun _ _ _ h => h) (Or.inl ⟨by rfl, ?_⟩) (by assumption) ?_
    rotate_left
    · intro X hSw
      go_simp
      try with_reducible rfl
    rotate_left
    try simp only [Act.put, List.setIfInBounds_toArray, List.set_cons_zero, List.set_cons_succ, List.getElem_toArray, List.getElem_cons_zero, List.getElem_cons_succ]
    refine wpAnyH_take (i := 5) (v := ?_) rfl (by kernel_rfl) (by kernel_rfl) (by kernel_rfl) (fun _ _ _ h => h) (Or.inl ⟨by rfl, ?_⟩) (by assumption) ?_
    rotate_left
    · intro X hSw
      go_simp
      try with_reducible rfl
    rotate_left
    try simp only [Act.put, List.setIfInBounds_toArray, List.set_cons_zero, List.set_cons_succ, List.getElem_toArray, List.getElem_cons_zero, List.getElem_cons_succ]
    refine wpAnyH_take (i := 6) (v := ?_) rfl (by kernel_rfl) (by kernel_rfl) (by kernel_rfl) (fun _ _ _ h => h) (Or.inl ⟨by rfl, ?_⟩) (by assumption) ?_
    rotate_left
    · intro X hSw
      go_simp
      try with_reducible rfl
    rotate_left
    try simp only [Act.put, List.setIfInBounds_toArray, List.set_cons_zero, List.set_cons_succ, List.getElem_toArray, List.getElem_cons_zero, List.getElem_cons_succ]
    refine wpAnyH_done (by kernel_rfl) ?_ _
    go_wp2_with fail
    go_ret
    exact ⟨by rw [HF.out]; first | rfl | simp, below_trans HB.out hHeld HB.out.size⟩
  · have q3 : (x.phase == 1) = false := by rw [beq_eq_false_iff_ne]; exact g3
    have r3 : (x.phase != 1) = true := by rw [bne_iff_ne]; exact g3
    by_cases g2 : x.phase = 2
    · have q2 : (x.phase == 2) = true := by rw [g2]; simp
      have r2 : (x.phase != 2) = false := by rw [g2]; simp
      have HF := Lib.hid (show decide (RC x) = (x.n == ((jobOf x).length : Int)) from by rw [Bool.eq_iff_iff]; simp only [decide_eq_true_eq, beq_iff_eq]; unfold RC; omega)
      try clear g0
      try clear g1
      try clear g2
      try clear g3
      go_enter Try.func45, Try.ntmps45
      go_wp2_with fail
      rw [← HW.out]
      refine wp_region_held_drew (S := fun V => Below W0.heap.size W0 V) (by kernel_rfl) (below_dn (Below.refl _ _) 1) (fun hHeld => ?_)
      refine wpAnyH_take (i := 0) (v := ?_) rfl (by kernel_rfl) (by kernel_rfl) (by kernel_rfl) (fun _ _ _ h => h) (Or.inl ⟨by rfl, ?_⟩) (by assumption) ?_
      rotate_left
      · intro X hSw
        go_simp
        try with_reducible rfl
      rotate_left
      try simp only [Act.put, List.setIfInBounds_toArray, List.set_cons_zero, List.set_cons_succ, List.getElem_toArray, List.getElem_cons_zero, List.getElem_cons_succ]
      refine wpAnyH_take (i := 1) (v := ?_) rfl (by kernel_rfl) (by kernel_rfl) (by kernel_rfl) (fun _ _ _ h => h) (Or.inl ⟨by rfl, ?_⟩) (by assumption) ?_
      rotate_left
      · intro X hSw
        have hc0 : X.cell? ⟨w.heap.size, 5, none⟩ = some (.int .i64 x.n) := cell_keep hSw px5
        go_simp
        try with_reducible rfl
      rotate_left
      try simp only [Act.put, List.setIfInBounds_toArray, List.set_cons_zero, List.set_cons_succ, List.getElem_toArray, List.getElem_cons_zero, List.getElem_cons_succ]
      refine wpAnyH_take (i := 2) (v := ?_) rfl (by kernel_rfl) (by kernel_rfl) (by kernel_rfl) (fun _ _ _ h => h) (Or.inl ⟨by rfl, ?_⟩) (by assumption) ?_
      rotate_left
      · intro X hSw
        have hc0 : X.cell? ⟨w.heap.size, 0, none⟩ = some (.int .i64 x.me) := cell_keep hSw px0
        have hc1 : X.cell? ⟨w.heap.size, 1, none⟩ = some (.int .i64 x.epoch) := cell_keep hSw px1
        have hc2 : X.cell? ⟨w.heap.size, 2, none⟩ = some (.int .i64 x.seq) := cell_keep hSw px2
        have hc3 : X.cell? ⟨w.heap.size, 3, none⟩ = some (.slice XJ x.jobs.length Xj) := cell_keep hSw px3
        have hc4 : X.cell? ⟨w.heap.size, 4, none⟩ = some (.int .i64 x.phase) := cell_keep hSw px4
        have hc5 : X.cell? ⟨w.heap.size, 5, none⟩ = some (.int .i64 x.n) := cell_keep hSw px5
        have hc6 : X.cell? ⟨w.heap.size, 6, none⟩ = some (.int .i64 x.stamp) := cell_keep hSw px6
        have hc7 : X.cell? ⟨w.heap.size, 7, none⟩ = some (.slice XT x.told.length Xt) := cell_keep hSw px7
        have hc8 : X.cell? ⟨w.heap.size, 8, none⟩ = some (.slice XN x.now.length Xn) := cell_keep hSw px8
        go_simp
        try with_reducible rfl
      rotate_left
      try simp only [Act.put, List.setIfInBounds_toArray, List.set_cons_zero, List.set_cons_succ, List.getElem_toArray, List.getElem_cons_zero, List.getElem_cons_succ]
      refine wpAnyH_ready (rs := [3]) (by kernel_rfl) (by simp) ?_
      refine (AllReadyH.cons rfl (fun K hK => ?_) AllReadyH.nil)
      rw [if_pos (by rfl)]
      go_wp2_with fail
      refine (client_job x _ _ ⟨_, _, _, rfl, HX.out.below hHeld⟩).mono ?_
      rintro e wq ⟨A5, c5, rfl, -, hb⟩
      replace hHeld := below_trans hHeld hb (Below.size hHeld)
      clear hb
      refine hK.out _ _ hHeld (fun _ => ?_)
      clear hK K
      try simp only [Act.put, List.setIfInBounds_toArray, List.set_cons_zero, List.set_cons_succ, List.getElem_toArray, List.getElem_cons_zero, List.getElem_cons_succ]
      refine wpAnyH_take (i := 4) (v := ?_) rfl (by kernel_rfl) (by kernel_rfl) (by kernel_rfl) (fun _ _ _ h => h) (Or.inl ⟨by rfl, ?_⟩) (by assumption) ?_
      rotate_left
      · intro X hSw
        go_simp
        try with_reducible rfl
      rotate_left
      try simp only [Act.put, List.setIfInBounds_toArray, List.set_cons_zero, List.set_cons_succ, List.getElem_toArray, List.getElem_cons_zero, List.getElem_cons_succ]
      refine wpAnyH_take (i := 5) (v := ?_) rfl (by kernel_rfl) (by kernel_rfl) (by kernel_rfl) (fun _ _ _ h => h) (Or.inl ⟨by rfl, ?_⟩) (by assumption) ?_
      rotate_left
      · intro X hSw
        go_simp
        try with_reducible rfl
      rotate_left
      try simp only [Act.put, List.setIfInBounds_toArray, List.set_cons_zero, List.set_cons_succ, List.getElem_toArray, List.getElem_cons_zero, List.getElem_cons_succ]
      refine wpAnyH_take (i := 6) (v := ?_) rfl (by kernel_rfl) (by kernel_rfl) (by kernel_rfl) (fun _ _ _ h => h) (Or.inl ⟨by rfl, ?_⟩) (by assumption) ?_
      rotate_left
      · intro X hSw
        go_simp
        try with_reducible rfl
      rotate_left
      try simp only [Act.put, List.setIfInBounds_toArray, List.set_cons_zero, List.set_cons_succ, List.getElem_toArray, List.getElem_cons_zero, List.getElem_cons_succ]
      refine wpAnyH_done (by kernel_rfl) ?_ _
      go_wp2_with fail
      go_ret
      exact ⟨by rw [HF.out]; first | rfl | simp, below_trans HB.out hHeld HB.out.size⟩
    · have q2 : (x.phase == 2) = false := by rw [beq_eq_false_iff_ne]; exact g2
      have r2 : (x.phase != 2) = true := by rw [bne_iff_ne]; exact g2
      by_cases g1 : x.n = 0
      · have q1 : (x.n == 0) = true := by rw [g1]; simp
        have r1 : (x.n != 0) = false := by rw [g1]; simp
        by_cases g0 : x.stamp = 0
        · have q0 : (x.stamp == 0) = true := by rw [g0]; simp
          have r0 : (x.stamp != 0) = false := by rw [g0]; simp
          have HF := Lib.hid (show decide (RC x) = true from decide_eq_true (by unfold RC; omega))
          try clear g0
          try clear g1
          try clear g2
          try clear g3
          go_enter Try.func45, Try.ntmps45
          go_wp2_with fail
          rw [← HW.out]
          go_ret
          exact ⟨by rw [HF.out]; rfl, HB.out⟩
        · have q0 : (x.stamp == 0) = false := by rw [beq_eq_false_iff_ne]; exact g0
          have r0 : (x.stamp != 0) = true := by rw [bne_iff_ne]; exact g0
          have HF := Lib.hid (show decide (RC x) = false from decide_eq_false (by unfold RC; omega))
          try clear g0
          try clear g1
          try clear g2
          try clear g3
          go_enter Try.func45, Try.ntmps45
          go_wp2_with fail
          rw [← HW.out]
          go_ret
          exact ⟨by rw [HF.out]; rfl, HB.out⟩
      · have q1 : (x.n == 0) = false := by rw [beq_eq_false_iff_ne]; exact g1
        have r1 : (x.n != 0) = true := by rw [bne_iff_ne]; exact g1
        have HF := Lib.hid (show decide (RC x) = false from decide_eq_false (by unfold RC; omega))
        try clear g0
        try clear g1
        try clear g2
        try clear g3
        go_enter Try.func45, Try.ntmps45
        go_wp2_with fail
        rw [← HW.out]
        go_ret
        exact ⟨by rw [HF.out]; rfl, HB.out⟩
set_option maxRecDepth 100000 in
set_option maxHeartbeats 4000000 in
theorem client_Right (x : Cli) (v : Value) (w : World) (hx : CliV w v x) :
    Calls Try.prog 23 #[v] w (fun e w' => e = .returned (.bool (decide (RightP x))) ∧ Below w.heap.size w w') := by
  obtain ⟨jv, tv, nv, rfl, hx⟩ := hx
  obtain ⟨XJ, Xj, XT, Xt, XN, Xn, rfl, rfl, rfl⟩ := hx.shape
  obtain ⟨⟨⟨me1, me2⟩, ⟨ep1, ep2⟩, ⟨sq1, sq2⟩, ⟨ph1, ph2⟩, ⟨nn1, nn2⟩, ⟨st1, st2⟩⟩, ojx, otx, onx⟩ := id hx.ok
  obtain ⟨W0, hW⟩ : ∃ W, W = w.alloc (.cells #[.int .i64 x.me, .int .i64 x.epoch, .int .i64 x.seq, .slice XJ x.jobs.length Xj, .int .i64 x.phase, .int .i64 x.n, .int .i64 x.stamp, .slice XT x.told.length Xt, .slice XN x.now.length Xn] 26) := ⟨_, rfl⟩
  have hb : Below w.heap.size w W0 := by rw [hW]; exact (Below.refl _ _).alloc (Nat.le_refl _) _
  have hp0 : ∀ j v, (#[.int .i64 x.me, .int .i64 x.epoch, .int .i64 x.seq, .slice XJ x.jobs.length Xj, .int .i64 x.phase, .int .i64 x.n, .int .i64 x.stamp, .slice XT x.told.length Xt, .slice XN x.now.length Xn] : Array Value)[j]? = some v → W0.cell? ⟨w.heap.size, j, none⟩ = some v := fun j v h => by
    rw [hW]
    have := cell_new (w) #[.int .i64 x.me, .int .i64 x.epoch, .int .i64 x.seq, .slice XJ x.jobs.length Xj, .int .i64 x.phase, .int .i64 x.n, .int .i64 x.stamp, .slice XT x.told.length Xt, .slice XN x.now.length Xn] 26 j
    exact by rw [this]; exact h
  have px0 : W0.cell? ⟨w.heap.size, 0, none⟩ = some (.int .i64 x.me) := hp0 0 _ rfl
  have px1 : W0.cell? ⟨w.heap.size, 1, none⟩ = some (.int .i64 x.epoch) := hp0 1 _ rfl
  have px2 : W0.cell? ⟨w.heap.size, 2, none⟩ = some (.int .i64 x.seq) := hp0 2 _ rfl
  have px3 : W0.cell? ⟨w.heap.size, 3, none⟩ = some (.slice XJ x.jobs.length Xj) := hp0 3 _ rfl
  have px4 : W0.cell? ⟨w.heap.size, 4, none⟩ = some (.int .i64 x.phase) := hp0 4 _ rfl
  have px5 : W0.cell? ⟨w.heap.size, 5, none⟩ = some (.int .i64 x.n) := hp0 5 _ rfl
  have px6 : W0.cell? ⟨w.heap.size, 6, none⟩ = some (.int .i64 x.stamp) := hp0 6 _ rfl
  have px7 : W0.cell? ⟨w.heap.size, 7, none⟩ = some (.slice XT x.told.length Xt) := hp0 7 _ rfl
  have px8 : W0.cell? ⟨w.heap.size, 8, none⟩ = some (.slice XN x.now.length Xn) := hp0 8 _ rfl
  have HX := Lib.hid (hx.below hb)
  have HW := Lib.hid hW
  have HB := Lib.hid hb
  clear hx hb hW hp0
  unfold cliC
  by_cases g3 : x.me < 0
  · have HF := Lib.hid (show decide (RightP x) = false from decide_eq_false (by unfold RightP; omega))
    try clear g0
    go_enter Try.func23, Try.ntmps23
    go_wp2_with fail
    rw [← HW.out]
    go_ret
    exact ⟨by rw [HF.out]; rfl, HB.out⟩
  · have r3 : 0 ≤ x.me := by omega
    by_cases g2 : x.epoch < 1
    · have HF := Lib.hid (show decide (RightP x) = false from decide_eq_false (by unfold RightP; omega))
      try clear g0
      go_enter Try.func23, Try.ntmps23
      go_wp2_with fail
      rw [← HW.out]
      go_ret
      exact ⟨by rw [HF.out]; rfl, HB.out⟩
    · have r2 : 1 ≤ x.epoch := by omega
      by_cases g1 : x.seq < 1
      · have HF := Lib.hid (show decide (RightP x) = false from decide_eq_false (by unfold RightP; omega))
        try clear g0
        go_enter Try.func23, Try.ntmps23
        go_wp2_with fail
        rw [← HW.out]
        go_ret
        exact ⟨by rw [HF.out]; rfl, HB.out⟩
      · have r1 : 1 ≤ x.seq := by omega
        by_cases g0 : (x.now.length : Int) = x.n
        · have q0 : ((x.now.length : Int) == x.n) = true := by rw [g0]; simp
          have r0 : ((x.now.length : Int) != x.n) = false := by rw [g0]; simp
          have HG : Hid (0 ≤ x.me ∧ 1 ≤ x.epoch ∧ 1 ≤ x.seq ∧ (x.now.length : Int) = x.n) := Lib.hid (by omega)
          try clear g0
          go_enter Try.func23, Try.ntmps23
          go_wp2_with fail
          rw [← HW.out]
          go_loopw [29] (fun si wr => ∃ k : Nat, si = .int .i64 k ∧ k ≤ x.told.length ∧ (∀ i (h : i < x.told.length), i < k → x.told[i].seq = (i : Int) + 1) ∧ Below W0.heap.size W0 wr) (fun si _ => x.told.length - (intOf si).toNat)
          case atStart => exact ⟨0, rfl, Nat.zero_le _, fun i _ h => absurd h (Nat.not_lt_zero _), Below.refl _ _⟩
          case round =>
            obtain ⟨k, rfl, hk, hp, hb⟩ := hrel
            have HP := Lib.hid (And.intro hp hb)
            have hbs := hb.size
            clear hp hb
            by_cases hlt : k < x.told.length
            · obtain ⟨b1, o1, A1, c1, rfl, hb1, k0, k1, k2, k3, hs1, ok1, _, _⟩ := (HX.out.told.below HP.out.2).at k hlt
              have hi1 : (k : Int) < (x.told.length : Int) := by omega
              have HST := Lib.hid (fun h : x.told[k].seq = (k : Int) + 1 => show ∀ i (h : i < x.told.length), i < k + 1 → x.told[i].seq = (i : Int) + 1 from fun i hi hik => by
                rcases Nat.lt_or_ge i k with h1 | h1
                · exact HP.out.1 i hi h1
                · obtain rfl : i = k := by omega
                  exact h)
              have HNO := Lib.hid (fun h : ¬ x.told[k].seq = (k : Int) + 1 => show decide (RightP x) = false from decide_eq_false (fun hh => h (hh.2.2.2.2.1 k hlt)))
              generalize x.told[k] = u at *
              obtain ⟨us, uy, ue, ul⟩ := u
              simp only at k0 k1 k2 k3 hs1 ok1 HST HNO
              obtain ⟨W3, hW3⟩ : ∃ W3, W3 = wr.alloc (.cells #[.int .i64 us, .bool uy, .int .i64 ue, .slice A1 ul.length c1] 53) := ⟨_, rfl⟩
              have HB3 := Lib.hid (below_trans HP.out.2 (show Below wr.heap.size wr W3 from by rw [hW3]; exact (Below.refl _ _).alloc (Nat.le_refl _) _) hbs)
              have HW3 := Lib.hid hW3
              clear hs1 hW3
              by_cases hu : us = (k : Int) + 1
              · have HN := Lib.hid (HST.out hu)
                have hq : (us != (k : Int) + 1) = false := by rw [hu]; simp
                clear HST HNO hu
                go_wp2_with fail
                rw [← HW3.out]
                go_roundw
                case rel => exact ⟨k + 1, by go_num, by omega, HN.out, HB3.out⟩
                case measure => simp [intOf]; omega
              · have HF := Lib.hid (HNO.out hu)
                have hq : (us != (k : Int) + 1) = true := by rw [bne_iff_ne]; exact hu
                clear HST HNO hu
                go_wp2_with fail
                rw [← HW3.out]
                go_ret
                exact ⟨by rw [HF.out]; rfl, below_trans HB.out HB3.out HB.out.size⟩
            · have HS : Hid (Seqs x.told) := Lib.hid (fun i hi => HP.out.1 i hi (by omega))
              have d0 := cell_keep HP.out.2 px0
              have d1 := cell_keep HP.out.2 px1
              have d2 := cell_keep HP.out.2 px2
              have d3 := cell_keep HP.out.2 px3
              have d4 := cell_keep HP.out.2 px4
              have d5 := cell_keep HP.out.2 px5
              have d6 := cell_keep HP.out.2 px6
              have d7 := cell_keep HP.out.2 px7
              have d8 := cell_keep HP.out.2 px8
              go_wp2_with fail
              refine (client_rightTold x _ _ ⟨_, _, _, rfl, HX.out.below HP.out.2⟩ HG.out.2.2.1).mono ?_
              rintro e w1 ⟨rfl, hb1⟩
              have HB1 := Lib.hid (below_trans HP.out.2 hb1 hbs)
              have d0 := cell_keep hb1 d0
              have d1 := cell_keep hb1 d1
              have d2 := cell_keep hb1 d2
              have d3 := cell_keep hb1 d3
              have d4 := cell_keep hb1 d4
              have d5 := cell_keep hb1 d5
              have d6 := cell_keep hb1 d6
              have d7 := cell_keep hb1 d7
              have d8 := cell_keep hb1 d8
              clear hb1
              have HF : Hid (decide (RightP x) = (decide (RT x) && decide (RC x))) := Lib.hid (by
                have h1 := HG.out
                have h2 := HS.out
                rw [Bool.eq_iff_iff]
                simp only [Bool.and_eq_true, decide_eq_true_eq]
                unfold RightP
                exact ⟨fun h => ⟨h.2.2.2.2.2.1, h.2.2.2.2.2.2⟩, fun h => ⟨h1.1, h1.2.1, h1.2.2.1, h1.2.2.2, h2, h.1, h.2⟩⟩)
              generalize decide (RT x) = bt at *
              cases bt
              · go_wp2_with fail
                go_ret
                exact ⟨by rw [HF.out]; rfl, below_trans HB.out HB1.out HB.out.size⟩
              · go_wp2_with fail
                refine (client_rightCalls x _ _ ⟨_, _, _, rfl, HX.out.below HB1.out⟩).mono ?_
                rintro e w2 ⟨rfl, hb2⟩
                have HB2 := Lib.hid (below_trans HB1.out hb2 HB1.out.size)
                clear hb2
                go_wp2_with fail
                go_ret
                exact ⟨by rw [HF.out]; rfl, below_trans HB.out HB2.out HB.out.size⟩
        · have q0 : ((x.now.length : Int) == x.n) = false := by rw [beq_eq_false_iff_ne]; exact g0
          have r0 : ((x.now.length : Int) != x.n) = true := by rw [bne_iff_ne]; exact g0
          have HF := Lib.hid (show decide (RightP x) = false from decide_eq_false (by unfold RightP; omega))
          try clear g0
          go_enter Try.func23, Try.ntmps23
          go_wp2_with fail
          rw [← HW.out]
          go_ret
          exact ⟨by rw [HF.out]; rfl, HB.out⟩
end Go.Proofs.Ytpdedjbkfcaebaa
