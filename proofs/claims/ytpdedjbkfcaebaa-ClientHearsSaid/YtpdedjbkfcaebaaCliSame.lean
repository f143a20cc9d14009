/- client.Same and copyholdref18.Same: are two clients the same? Old memory is as it was. -/
import Derived.Test.YtpdedjbkfcaebaaCliDon
set_option linter.unusedVariables false
set_option linter.unusedSimpArgs false
namespace Go.Proofs.Ytpdedjbkfcaebaa
open Go.RowKit Copyhold
theorem eq_int (d : Nat) (a b : Int) (w : World) : (Op.equalIn (d + 1) 3 (.int .i64 a) (.int .i64 b)).run Try.prog w = .ok (a == b) w := run_equalIn_int w d 3 .i64 .i64 a b Try.underlying3
set_option maxRecDepth 100000 in
set_option maxHeartbeats 1000000 in
theorem eql_arr6 (r1 r2 r3 r4 r5 r6 q1 q2 q3 q4 q5 q6 : Int) (w : World) :
    (binOp .eql 68 (.agg #[.int .i64 r1, .int .i64 r2, .int .i64 r3, .int .i64 r4, .int .i64 r5, .int .i64 r6]) (.agg #[.int .i64 q1, .int .i64 q2, .int .i64 q3, .int .i64 q4, .int .i64 q5, .int .i64 q6])).run Try.prog w = .ok (.bool (r1 == q1 && (r2 == q2 && (r3 == q3 && (r4 == q4 && (r5 == q5 && r6 == q6)))))) w := by
  have hsz : ∀ w, (Go.sizeOf 3).run Try.prog w = .ok 1 w := fun w => by kernel_rfl
  have p0 : ∀ (u0 u1 u2 u3 u4 u5 : Value) w, (part 3 #[u0, u1, u2, u3, u4, u5] 0).run Try.prog w = .ok u0 w := fun _ _ _ _ _ _ _ => by simp [go_sem, part, hsz]
  have p1 : ∀ (u0 u1 u2 u3 u4 u5 : Value) w, (part 3 #[u0, u1, u2, u3, u4, u5] 1).run Try.prog w = .ok u1 w := fun _ _ _ _ _ _ _ => by simp [go_sem, part, hsz]
  have p2 : ∀ (u0 u1 u2 u3 u4 u5 : Value) w, (part 3 #[u0, u1, u2, u3, u4, u5] 2).run Try.prog w = .ok u2 w := fun _ _ _ _ _ _ _ => by simp [go_sem, part, hsz]
  have p3 : ∀ (u0 u1 u2 u3 u4 u5 : Value) w, (part 3 #[u0, u1, u2, u3, u4, u5] 3).run Try.prog w = .ok u3 w := fun _ _ _ _ _ _ _ => by simp [go_sem, part, hsz]
  have p4 : ∀ (u0 u1 u2 u3 u4 u5 : Value) w, (part 3 #[u0, u1, u2, u3, u4, u5] 4).run Try.prog w = .ok u4 w := fun _ _ _ _ _ _ _ => by simp [go_sem, part, hsz]
  have p5 : ∀ (u0 u1 u2 u3 u4 u5 : Value) w, (part 3 #[u0, u1, u2, u3, u4, u5] 5).run Try.prog w = .ok u5 w := fun _ _ _ _ _ _ _ => by simp [go_sem, part, hsz]
  have q := fun a b w => eq_int 9998 a b w
  rw [run_eql_struct]
  show ((Op.equalIn (9999 + 1) _ _ _).run _ _).andThen _ = _
  rw [Op.equalIn]
  simp only [Sem.run_bind, run_underlying Try.underlying68, Result.andThen_ok, hsz, Std.Legacy.Range.forIn_eq_forIn_range', Std.Legacy.Range.size, List.range', List.forIn_cons, List.forIn_nil]
  by_cases h : r1 = q1
  · subst h
    by_cases h : r2 = q2
    · subst h
      by_cases h : r3 = q3
      · subst h
        by_cases h : r4 = q4
        · subst h
          by_cases h : r5 = q5
          · subst h
            by_cases h : r6 = q6
            · subst h
              simp [Sem.run_bind, Result.andThen, p0, p1, p2, p3, p4, p5, q]
            · have hne : (r6 == q6) = false := by rw [beq_eq_false_iff_ne]; exact h
              simp [Sem.run_bind, Result.andThen, p0, p1, p2, p3, p4, p5, q, hne]
          · have hne : (r5 == q5) = false := by rw [beq_eq_false_iff_ne]; exact h
            simp [Sem.run_bind, Result.andThen, p0, p1, p2, p3, p4, p5, q, hne]
        · have hne : (r4 == q4) = false := by rw [beq_eq_false_iff_ne]; exact h
          simp [Sem.run_bind, Result.andThen, p0, p1, p2, p3, p4, p5, q, hne]
      · have hne : (r3 == q3) = false := by rw [beq_eq_false_iff_ne]; exact h
        simp [Sem.run_bind, Result.andThen, p0, p1, p2, p3, p4, p5, q, hne]
    · have hne : (r2 == q2) = false := by rw [beq_eq_false_iff_ne]; exact h
      simp [Sem.run_bind, Result.andThen, p0, p1, p2, p3, p4, p5, q, hne]
  · have hne : (r1 == q1) = false := by rw [beq_eq_false_iff_ne]; exact h
    simp [Sem.run_bind, Result.andThen, p0, p1, p2, p3, p4, p5, q, hne]
set_option maxHeartbeats 1000000 in
theorem client_numbers (x : Cli) (jv tv nv : Value) (h1 : jv.cells = #[jv]) (h2 : tv.cells = #[tv]) (h3 : nv.cells = #[nv]) (w : World) :
    Calls Try.prog 39 #[.agg (cliC x jv tv nv)] w fun e w' => e = .returned (.agg #[.int .i64 x.me, .int .i64 x.epoch, .int .i64 x.seq, .int .i64 x.phase, .int .i64 x.n, .int .i64 x.stamp]) ∧ Below w.heap.size w w' := by
  unfold cliC
  go_enter Try.func39, Try.ntmps39
  go_wp2_with fail
  refine bodyPost_ret (v := .agg #[.int .i64 x.me, .int .i64 x.epoch, .int .i64 x.seq, .int .i64 x.phase, .int .i64 x.n, .int .i64 x.stamp]) (by simp [results, Try.results39, go_sem]) rfl ⟨rfl, ?_⟩
  repeat (first | exact Below.refl _ _ | (refine Below.setCell ?_ (by simp <;> omega) _) | (refine Below.alloc ?_ (by simp <;> omega) _))
set_option maxRecDepth 100000 in
set_option maxHeartbeats 8000000 in
theorem client_Same (x y : Cli) (vx vy : Value) (w : World) (hx : CliV w vx x) (hy : CliV w vy y) :
    Calls Try.prog 19 #[vx, vy] w fun e w' => e = .returned (.bool (decide (x = y))) ∧ Below w.heap.size w w' := by
  obtain ⟨jv, tv, nv, rfl, hx⟩ := hx
  obtain ⟨jv', tv', nv', rfl, hy⟩ := hy
  obtain ⟨XJ, Xj, XT, Xt, XN, Xn, rfl, rfl, rfl⟩ := hx.shape
  obtain ⟨YJ, Yj, YT, Yt, YN, Yn, rfl, rfl, rfl⟩ := hy.shape
  obtain ⟨W0, hW⟩ : ∃ W, W = (w.alloc (.cells #[.int .i64 x.me, .int .i64 x.epoch, .int .i64 x.seq, .slice XJ x.jobs.length Xj, .int .i64 x.phase, .int .i64 x.n, .int .i64 x.stamp, .slice XT x.told.length Xt, .slice XN x.now.length Xn] 26)).alloc (.cells #[.int .i64 y.me, .int .i64 y.epoch, .int .i64 y.seq, .slice YJ y.jobs.length Yj, .int .i64 y.phase, .int .i64 y.n, .int .i64 y.stamp, .slice YT y.told.length Yt, .slice YN y.now.length Yn] 26) := ⟨_, rfl⟩
  have hb : Below w.heap.size w W0 := by rw [hW]; exact ((Below.refl _ _).alloc (Nat.le_refl _) _).alloc (by simp) _
  have hpx : ∀ j v, (#[.int .i64 x.me, .int .i64 x.epoch, .int .i64 x.seq, .slice XJ x.jobs.length Xj, .int .i64 x.phase, .int .i64 x.n, .int .i64 x.stamp, .slice XT x.told.length Xt, .slice XN x.now.length Xn] : Array Value)[j]? = some v → W0.cell? ⟨w.heap.size, j, none⟩ = some v := fun j v h => by
    rw [hW]
    exact cell_alloc _ (by rw [cell_new]; exact h)
  have hpy : ∀ j v, (#[.int .i64 y.me, .int .i64 y.epoch, .int .i64 y.seq, .slice YJ y.jobs.length Yj, .int .i64 y.phase, .int .i64 y.n, .int .i64 y.stamp, .slice YT y.told.length Yt, .slice YN y.now.length Yn] : Array Value)[j]? = some v → W0.cell? ⟨w.heap.size + 1, j, none⟩ = some v := fun j v h => by
    rw [hW]
    have := cell_new (w.alloc (.cells #[.int .i64 x.me, .int .i64 x.epoch, .int .i64 x.seq, .slice XJ x.jobs.length Xj, .int .i64 x.phase, .int .i64 x.n, .int .i64 x.stamp, .slice XT x.told.length Xt, .slice XN x.now.length Xn] 26)) #[.int .i64 y.me, .int .i64 y.epoch, .int .i64 y.seq, .slice YJ y.jobs.length Yj, .int .i64 y.phase, .int .i64 y.n, .int .i64 y.stamp, .slice YT y.told.length Yt, .slice YN y.now.length Yn] 26 j
    rw [show (w.alloc (.cells #[.int .i64 x.me, .int .i64 x.epoch, .int .i64 x.seq, .slice XJ x.jobs.length Xj, .int .i64 x.phase, .int .i64 x.n, .int .i64 x.stamp, .slice XT x.told.length Xt, .slice XN x.now.length Xn] 26)).heap.size = w.heap.size + 1 from by simp] at this
    rw [this]; exact h
  have px0 : W0.cell? ⟨w.heap.size, 0, none⟩ = some (.int .i64 x.me) := hpx 0 _ rfl
  have px1 : W0.cell? ⟨w.heap.size, 1, none⟩ = some (.int .i64 x.epoch) := hpx 1 _ rfl
  have px2 : W0.cell? ⟨w.heap.size, 2, none⟩ = some (.int .i64 x.seq) := hpx 2 _ rfl
  have px3 : W0.cell? ⟨w.heap.size, 3, none⟩ = some (.slice XJ x.jobs.length Xj) := hpx 3 _ rfl
  have px4 : W0.cell? ⟨w.heap.size, 4, none⟩ = some (.int .i64 x.phase) := hpx 4 _ rfl
  have px5 : W0.cell? ⟨w.heap.size, 5, none⟩ = some (.int .i64 x.n) := hpx 5 _ rfl
  have px6 : W0.cell? ⟨w.heap.size, 6, none⟩ = some (.int .i64 x.stamp) := hpx 6 _ rfl
  have px7 : W0.cell? ⟨w.heap.size, 7, none⟩ = some (.slice XT x.told.length Xt) := hpx 7 _ rfl
  have px8 : W0.cell? ⟨w.heap.size, 8, none⟩ = some (.slice XN x.now.length Xn) := hpx 8 _ rfl
  have py0 : W0.cell? ⟨w.heap.size + 1, 0, none⟩ = some (.int .i64 y.me) := hpy 0 _ rfl
  have py1 : W0.cell? ⟨w.heap.size + 1, 1, none⟩ = some (.int .i64 y.epoch) := hpy 1 _ rfl
  have py2 : W0.cell? ⟨w.heap.size + 1, 2, none⟩ = some (.int .i64 y.seq) := hpy 2 _ rfl
  have py3 : W0.cell? ⟨w.heap.size + 1, 3, none⟩ = some (.slice YJ y.jobs.length Yj) := hpy 3 _ rfl
  have py4 : W0.cell? ⟨w.heap.size + 1, 4, none⟩ = some (.int .i64 y.phase) := hpy 4 _ rfl
  have py5 : W0.cell? ⟨w.heap.size + 1, 5, none⟩ = some (.int .i64 y.n) := hpy 5 _ rfl
  have py6 : W0.cell? ⟨w.heap.size + 1, 6, none⟩ = some (.int .i64 y.stamp) := hpy 6 _ rfl
  have py7 : W0.cell? ⟨w.heap.size + 1, 7, none⟩ = some (.slice YT y.told.length Yt) := hpy 7 _ rfl
  have py8 : W0.cell? ⟨w.heap.size + 1, 8, none⟩ = some (.slice YN y.now.length Yn) := hpy 8 _ rfl
  have HX := Lib.hid (hx.below hb)
  have HY := Lib.hid (hy.below hb)
  have HW := Lib.hid hW
  have HB := Lib.hid hb
  have ojx := hx.ok.2.1
  have otx := hx.ok.2.2.1
  have onx := hx.ok.2.2.2
  have ojy := hy.ok.2.1
  have oty := hy.ok.2.2.1
  have ony := hy.ok.2.2.2
  clear hx hy hb hW hpx hpy
  unfold cliC
  obtain ⟨bj, hbj⟩ : ∃ b, b = decide (x.jobs = y.jobs) := ⟨_, rfl⟩
  obtain ⟨bt, hbt⟩ : ∃ b, b = decide (x.told = y.told) := ⟨_, rfl⟩
  obtain ⟨bn, hbn⟩ : ∃ b, b = decide (x.now = y.now) := ⟨_, rfl⟩
  have HJ := Lib.hid (fun W (h : Below W0.heap.size W0 W) => jobs_EqualFunc x.jobs y.jobs _ _ W (HX.out.jobs.below h) (HY.out.jobs.below h) ojx ojy)
  have HT := Lib.hid (fun W (h : Below W0.heap.size W0 W) => dons_EqualFunc x.told y.told _ _ W (HX.out.told.below h) (HY.out.told.below h) otx oty)
  have HN := Lib.hid (fun W (h : Below W0.heap.size W0 W) => reps_EqualFunc x.now y.now _ _ W (HX.out.now.below h) (HY.out.now.below h) onx ony)
  rw [← hbj] at HJ
  rw [← hbt] at HT
  rw [← hbn] at HN
  have heq := fun W : World => eql_arr6 x.me x.epoch x.seq x.phase x.n x.stamp y.me y.epoch y.seq y.phase y.n y.stamp W
  obtain ⟨bh, hbh⟩ : ∃ b, b = (x.me == y.me && (x.epoch == y.epoch && (x.seq == y.seq && (x.phase == y.phase && (x.n == y.n && x.stamp == y.stamp))))) := ⟨_, rfl⟩
  rw [← hbh] at heq
  have hfin : decide (x = y) = (bh && (bj && (bt && bn))) := by
    rw [hbh, hbj, hbt, hbn, Bool.eq_iff_iff]
    obtain ⟨_, _, _, _, _, _, _, _, _⟩ := x
    obtain ⟨_, _, _, _, _, _, _, _, _⟩ := y
    simp
    try grind
  rw [hfin]
  clear hfin hbh hbj hbt hbn
  cases bh
  · go_enter Try.func19, Try.ntmps19
    go_wp2_with fail
    rw [← HW.out]
    refine wp_region_held_drew (S := fun V => Below W0.heap.size W0 V) (by kernel_rfl) (below_dn (Below.refl _ _) 1) (fun hHeld => ?_)
    refine wpAnyH_take (i := 0) (v := ?_) rfl (by kernel_rfl) (by kernel_rfl) (by kernel_rfl) (fun _ _ _ h => h) (Or.inl ⟨by rfl, ?_⟩) (by assumption) ?_
    rotate_left
    · intro X hSw
      go_simp
      try with_reducible rfl
    rotate_left
    try simp only [Act.put, List.setIfInBounds_toArray, List.set_cons_zero, List.set_cons_succ, List.getElem_toArray, List.getElem_cons_zero, List.getElem_cons_succ]
    refine wpAnyH_take (i := 1) (v := ?_) rfl (by kernel_rfl) (by kernel_rfl) (by kernel_rfl) (fun _ _ _ h => h) (Or.inl ⟨by rfl, ?_⟩) (by assumption) ?_
    rotate_left
    · intro X hSw
      have hc0 : X.cell? ⟨w.heap.size, 0, none⟩ = some (.int .i64 x.me) := cell_keep hSw px0
      have hc1 : X.cell? ⟨w.heap.size, 1, none⟩ = some (.int .i64 x.epoch) := cell_keep hSw px1
      have hc2 : X.cell? ⟨w.heap.size, 2, none⟩ = some (.int .i64 x.seq) := cell_keep hSw px2
      have hc3 : X.cell? ⟨w.heap.size, 3, none⟩ = some (.slice XJ x.jobs.length Xj) := cell_keep hSw px3
      have hc4 : X.cell? ⟨w.heap.size, 4, none⟩ = some (.int .i64 x.phase) := cell_keep hSw px4
      have hc5 : X.cell? ⟨w.heap.size, 5, none⟩ = some (.int .i64 x.n) := cell_keep hSw px5
      have hc6 : X.cell? ⟨w.heap.size, 6, none⟩ = some (.int .i64 x.stamp) := cell_keep hSw px6
      have hc7 : X.cell? ⟨w.heap.size, 7, none⟩ = some (.slice XT x.told.length Xt) := cell_keep hSw px7
      have hc8 : X.cell? ⟨w.heap.size, 8, none⟩ = some (.slice XN x.now.length Xn) := cell_keep hSw px8
      go_simp
      try with_reducible rfl
    rotate_left
    try simp only [Act.put, List.setIfInBounds_toArray, List.set_cons_zero, List.set_cons_succ, List.getElem_toArray, List.getElem_cons_zero, List.getElem_cons_succ]
    refine wpAnyH_take (i := 3) (v := ?_) rfl (by kernel_rfl) (by kernel_rfl) (by kernel_rfl) (fun _ _ _ h => h) (Or.inl ⟨by rfl, ?_⟩) (by assumption) ?_
    rotate_left
    · intro X hSw
      go_simp
      try with_reducible rfl
    rotate_left
    try simp only [Act.put, List.setIfInBounds_toArray, List.set_cons_zero, List.set_cons_succ, List.getElem_toArray, List.getElem_cons_zero, List.getElem_cons_succ]
    refine wpAnyH_take (i := 4) (v := ?_) rfl (by kernel_rfl) (by kernel_rfl) (by kernel_rfl) (fun _ _ _ h => h) (Or.inl ⟨by rfl, ?_⟩) (by assumption) ?_
    rotate_left
    · intro X hSw
      have hc0 : X.cell? ⟨w.heap.size + 1, 0, none⟩ = some (.int .i64 y.me) := cell_keep hSw py0
      have hc1 : X.cell? ⟨w.heap.size + 1, 1, none⟩ = some (.int .i64 y.epoch) := cell_keep hSw py1
      have hc2 : X.cell? ⟨w.heap.size + 1, 2, none⟩ = some (.int .i64 y.seq) := cell_keep hSw py2
      have hc3 : X.cell? ⟨w.heap.size + 1, 3, none⟩ = some (.slice YJ y.jobs.length Yj) := cell_keep hSw py3
      have hc4 : X.cell? ⟨w.heap.size + 1, 4, none⟩ = some (.int .i64 y.phase) := cell_keep hSw py4
      have hc5 : X.cell? ⟨w.heap.size + 1, 5, none⟩ = some (.int .i64 y.n) := cell_keep hSw py5
      have hc6 : X.cell? ⟨w.heap.size + 1, 6, none⟩ = some (.int .i64 y.stamp) := cell_keep hSw py6
      have hc7 : X.cell? ⟨w.heap.size + 1, 7, none⟩ = some (.slice YT y.told.length Yt) := cell_keep hSw py7
      have hc8 : X.cell? ⟨w.heap.size + 1, 8, none⟩ = some (.slice YN y.now.length Yn) := cell_keep hSw py8
      go_simp
      try with_reducible rfl
    rotate_left
    try simp only [Act.put, List.setIfInBounds_toArray, List.set_cons_zero, List.set_cons_succ, List.getElem_toArray, List.getElem_cons_zero, List.getElem_cons_succ]
    refine wpAnyH_ready (rs := [2]) (by kernel_rfl) (by simp) ?_
    refine (AllReadyH.cons rfl (fun K hK => ?_) AllReadyH.nil)
    rw [if_pos (by rfl)]
    go_wp2_with fail
    refine (client_numbers x _ _ _ rfl rfl rfl _).mono ?_
    rintro e wq ⟨rfl, hb⟩
    replace hHeld := below_trans hHeld hb (Below.size hHeld)
    clear hb
    refine hK.out _ _ hHeld (fun _ => ?_)
    clear hK K
    try simp only [Act.put, List.setIfInBounds_toArray, List.set_cons_zero, List.set_cons_succ, List.getElem_toArray, List.getElem_cons_zero, List.getElem_cons_succ]
    refine wpAnyH_ready (rs := [5]) (by kernel_rfl) (by simp) ?_
    refine (AllReadyH.cons rfl (fun K hK => ?_) AllReadyH.nil)
    rw [if_pos (by rfl)]
    go_wp2_with fail
    refine (client_numbers y _ _ _ rfl rfl rfl _).mono ?_
    rintro e wq ⟨rfl, hb⟩
    replace hHeld := below_trans hHeld hb (Below.size hHeld)
    clear hb
    refine hK.out _ _ hHeld (fun _ => ?_)
    clear hK K
    try simp only [Act.put, List.setIfInBounds_toArray, List.set_cons_zero, List.set_cons_succ, List.getElem_toArray, List.getElem_cons_zero, List.getElem_cons_succ]
    refine wpAnyH_take (i := 6) (v := ?_) rfl (by kernel_rfl) (by kernel_rfl) (by kernel_rfl) (fun _ _ _ h => h) (Or.inl ⟨by rfl, ?_⟩) (by assumption) ?_
    rotate_left
    · intro X hSw
      go_simp
      try with_reducible rfl
    rotate_left
    try simp only [Act.put, List.setIfInBounds_toArray, List.set_cons_zero, List.set_cons_succ, List.getElem_toArray, List.getElem_cons_zero, List.getElem_cons_succ]
    refine wpAnyH_take (i := 7) (v := ?_) rfl (by kernel_rfl) (by kernel_rfl) (by kernel_rfl) (fun _ _ _ h => h) (Or.inl ⟨by rfl, ?_⟩) (by assumption) ?_
    rotate_left
    · intro X hSw
      go_simp
      try with_reducible rfl
    rotate_left
    try simp only [Act.put, List.setIfInBounds_toArray, List.set_cons_zero, List.set_cons_succ, List.getElem_toArray, List.getElem_cons_zero, List.getElem_cons_succ]
    refine wpAnyH_take (i := 8) (v := undef) rfl (by kernel_rfl) (by kernel_rfl) (by kernel_rfl) (fun _ _ _ h => h) (Or.inr ⟨by rfl, rfl⟩) (by assumption) ?_
    try simp only [Act.put, List.setIfInBounds_toArray, List.set_cons_zero, List.set_cons_succ, List.getElem_toArray, List.getElem_cons_zero, List.getElem_cons_succ]
    refine wpAnyH_take (i := 9) (v := undef) rfl (by kernel_rfl) (by kernel_rfl) (by kernel_rfl) (fun _ _ _ h => h) (Or.inr ⟨by rfl, rfl⟩) (by assumption) ?_
    try simp only [Act.put, List.setIfInBounds_toArray, List.set_cons_zero, List.set_cons_succ, List.getElem_toArray, List.getElem_cons_zero, List.getElem_cons_succ]
    refine wpAnyH_take (i := 10) (v := undef) rfl (by kernel_rfl) (by kernel_rfl) (by kernel_rfl) (fun _ _ _ h => h) (Or.inr ⟨by rfl, rfl⟩) (by assumption) ?_
    try simp only [Act.put, List.setIfInBounds_toArray, List.set_cons_zero, List.set_cons_succ, List.getElem_toArray, List.getElem_cons_zero, List.getElem_cons_succ]
    refine wpAnyH_take (i := 11) (v := undef) rfl (by kernel_rfl) (by kernel_rfl) (by kernel_rfl) (fun _ _ _ h => h) (Or.inr ⟨by rfl, rfl⟩) (by assumption) ?_
    try simp only [Act.put, List.setIfInBounds_toArray, List.set_cons_zero, List.set_cons_succ, List.getElem_toArray, List.getElem_cons_zero, List.getElem_cons_succ]
    refine wpAnyH_take (i := 12) (v := undef) rfl (by kernel_rfl) (by kernel_rfl) (by kernel_rfl) (fun _ _ _ h => h) (Or.inr ⟨by rfl, rfl⟩) (by assumption) ?_
    try simp only [Act.put, List.setIfInBounds_toArray, List.set_cons_zero, List.set_cons_succ, List.getElem_toArray, List.getElem_cons_zero, List.getElem_cons_succ]
    refine wpAnyH_ready (rs := [13]) (by kernel_rfl) (by simp) ?_
    refine (AllReadyH.cons rfl (fun K hK => ?_) AllReadyH.nil)
    rw [if_neg (by intro h; exact absurd (show false = true from h) (by decide))]
    refine hK.out _ _ hHeld (fun _ => ?_)
    clear hK K
    try simp only [Act.put, List.setIfInBounds_toArray, List.set_cons_zero, List.set_cons_succ, List.getElem_toArray, List.getElem_cons_zero, List.getElem_cons_succ]
    refine wpAnyH_take (i := 14) (v := ?_) rfl (by kernel_rfl) (by kernel_rfl) (by kernel_rfl) (fun _ _ _ h => h) (Or.inl ⟨by rfl, ?_⟩) (by assumption) ?_
    rotate_left
    · intro X hSw
      go_simp
      try with_reducible rfl
    rotate_left
    try simp only [Act.put, List.setIfInBounds_toArray, List.set_cons_zero, List.set_cons_succ, List.getElem_toArray, List.getElem_cons_zero, List.getElem_cons_succ]
    refine wpAnyH_take (i := 15) (v := ?_) rfl (by kernel_rfl) (by kernel_rfl) (by kernel_rfl) (fun _ _ _ h => h) (Or.inl ⟨by rfl, ?_⟩) (by assumption) ?_
    rotate_left
    · intro X hSw
      go_simp
      try with_reducible rfl
    rotate_left
    try simp only [Act.put, List.setIfInBounds_toArray, List.set_cons_zero, List.set_cons_succ, List.getElem_toArray, List.getElem_cons_zero, List.getElem_cons_succ]
    refine wpAnyH_take (i := 16) (v := undef) rfl (by kernel_rfl) (by kernel_rfl) (by kernel_rfl) (fun _ _ _ h => h) (Or.inr ⟨by rfl, rfl⟩) (by assumption) ?_
    try simp only [Act.put, List.setIfInBounds_toArray, List.set_cons_zero, List.set_cons_succ, List.getElem_toArray, List.getElem_cons_zero, List.getElem_cons_succ]
    refine wpAnyH_take (i := 17) (v := undef) rfl (by kernel_rfl) (by kernel_rfl) (by kernel_rfl) (fun _ _ _ h => h) (Or.inr ⟨by rfl, rfl⟩) (by assumption) ?_
    try simp only [Act.put, List.setIfInBounds_toArray, List.set_cons_zero, List.set_cons_succ, List.getElem_toArray, List.getElem_cons_zero, List.getElem_cons_succ]
    refine wpAnyH_take (i := 18) (v := undef) rfl (by kernel_rfl) (by kernel_rfl) (by kernel_rfl) (fun _ _ _ h => h) (Or.inr ⟨by rfl, rfl⟩) (by assumption) ?_
    try simp only [Act.put, List.setIfInBounds_toArray, List.set_cons_zero, List.set_cons_succ, List.getElem_toArray, List.getElem_cons_zero, List.getElem_cons_succ]
    refine wpAnyH_take (i := 19) (v := undef) rfl (by kernel_rfl) (by kernel_rfl) (by kernel_rfl) (fun _ _ _ h => h) (Or.inr ⟨by rfl, rfl⟩) (by assumption) ?_
    try simp only [Act.put, List.setIfInBounds_toArray, List.set_cons_zero, List.set_cons_succ, List.getElem_toArray, List.getElem_cons_zero, List.getElem_cons_succ]
    refine wpAnyH_take (i := 20) (v := undef) rfl (by kernel_rfl) (by kernel_rfl) (by kernel_rfl) (fun _ _ _ h => h) (Or.inr ⟨by rfl, rfl⟩) (by assumption) ?_
    try simp only [Act.put, List.setIfInBounds_toArray, List.set_cons_zero, List.set_cons_succ, List.getElem_toArray, List.getElem_cons_zero, List.getElem_cons_succ]
    refine wpAnyH_ready (rs := [21]) (by kernel_rfl) (by simp) ?_
    refine (AllReadyH.cons rfl (fun K hK => ?_) AllReadyH.nil)
    rw [if_neg (by intro h; exact absurd (show false = true from h) (by decide))]
    refine hK.out _ _ hHeld (fun _ => ?_)
    clear hK K
    try simp only [Act.put, List.setIfInBounds_toArray, List.set_cons_zero, List.set_cons_succ, List.getElem_toArray, List.getElem_cons_zero, List.getElem_cons_succ]
    refine wpAnyH_take (i := 22) (v := ?_) rfl (by kernel_rfl) (by kernel_rfl) (by kernel_rfl) (fun _ _ _ h => h) (Or.inl ⟨by rfl, ?_⟩) (by assumption) ?_
    rotate_left
    · intro X hSw
      go_simp
      try with_reducible rfl
    rotate_left
    try simp only [Act.put, List.setIfInBounds_toArray, List.set_cons_zero, List.set_cons_succ, List.getElem_toArray, List.getElem_cons_zero, List.getElem_cons_succ]
    refine wpAnyH_take (i := 23) (v := ?_) rfl (by kernel_rfl) (by kernel_rfl) (by kernel_rfl) (fun _ _ _ h => h) (Or.inl ⟨by rfl, ?_⟩) (by assumption) ?_
    rotate_left
    · intro X hSw
      go_simp
      try with_reducible rfl
    rotate_left
    try simp only [Act.put, List.setIfInBounds_toArray, List.set_cons_zero, List.set_cons_succ, List.getElem_toArray, List.getElem_cons_zero, List.getElem_cons_succ]
    refine wpAnyH_take (i := 24) (v := undef) rfl (by kernel_rfl) (by kernel_rfl) (by kernel_rfl) (fun _ _ _ h => h) (Or.inr ⟨by rfl, rfl⟩) (by assumption) ?_
    try simp only [Act.put, List.setIfInBounds_toArray, List.set_cons_zero, List.set_cons_succ, List.getElem_toArray, List.getElem_cons_zero, List.getElem_cons_succ]
    refine wpAnyH_take (i := 25) (v := undef) rfl (by kernel_rfl) (by kernel_rfl) (by kernel_rfl) (fun _ _ _ h => h) (Or.inr ⟨by rfl, rfl⟩) (by assumption) ?_
    try simp only [Act.put, List.setIfInBounds_toArray, List.set_cons_zero, List.set_cons_succ, List.getElem_toArray, List.getElem_cons_zero, List.getElem_cons_succ]
    refine wpAnyH_take (i := 26) (v := undef) rfl (by kernel_rfl) (by kernel_rfl) (by kernel_rfl) (fun _ _ _ h => h) (Or.inr ⟨by rfl, rfl⟩) (by assumption) ?_
    try simp only [Act.put, List.setIfInBounds_toArray, List.set_cons_zero, List.set_cons_succ, List.getElem_toArray, List.getElem_cons_zero, List.getElem_cons_succ]
    refine wpAnyH_take (i := 27) (v := undef) rfl (by kernel_rfl) (by kernel_rfl) (by kernel_rfl) (fun _ _ _ h => h) (Or.inr ⟨by rfl, rfl⟩) (by assumption) ?_
    try simp only [Act.put, List.setIfInBounds_toArray, List.set_cons_zero, List.set_cons_succ, List.getElem_toArray, List.getElem_cons_zero, List.getElem_cons_succ]
    refine wpAnyH_ready (rs := [28]) (by kernel_rfl) (by simp) ?_
    refine (AllReadyH.cons rfl (fun K hK => ?_) AllReadyH.nil)
    rw [if_neg (by intro h; exact absurd (show false = true from h) (by decide))]
    refine hK.out _ _ hHeld (fun _ => ?_)
    clear hK K
    try simp only [Act.put, List.setIfInBounds_toArray, List.set_cons_zero, List.set_cons_succ, List.getElem_toArray, List.getElem_cons_zero, List.getElem_cons_succ]
    refine wpAnyH_take (i := 29) (v := ?_) rfl (by kernel_rfl) (by kernel_rfl) (by kernel_rfl) (fun _ _ _ h => h) (Or.inl ⟨by rfl, ?_⟩) (by assumption) ?_
    rotate_left
    · intro X hSw
      go_simp
      try with_reducible rfl
    rotate_left
    try simp only [Act.put, List.setIfInBounds_toArray, List.set_cons_zero, List.set_cons_succ, List.getElem_toArray, List.getElem_cons_zero, List.getElem_cons_succ]
    refine wpAnyH_take (i := 30) (v := ?_) rfl (by kernel_rfl) (by kernel_rfl) (by kernel_rfl) (fun _ _ _ h => h) (Or.inl ⟨by rfl, ?_⟩) (by assumption) ?_
    rotate_left
    · intro X hSw
      go_simp
      try with_reducible rfl
    rotate_left
    try simp only [Act.put, List.setIfInBounds_toArray, List.set_cons_zero, List.set_cons_succ, List.getElem_toArray, List.getElem_cons_zero, List.getElem_cons_succ]
    refine wpAnyH_done (by kernel_rfl) ?_ _
    go_wp2_with fail
    go_ret
    exact ⟨by first | rfl | simp, below_trans HB.out hHeld HB.out.size⟩
  · cases bj
    · go_enter Try.func19, Try.ntmps19
      go_wp2_with fail
      rw [← HW.out]
      refine wp_region_held_drew (S := fun V => Below W0.heap.size W0 V) (by kernel_rfl) (below_dn (Below.refl _ _) 1) (fun hHeld => ?_)
      refine wpAnyH_take (i := 0) (v := ?_) rfl (by kernel_rfl) (by kernel_rfl) (by kernel_rfl) (fun _ _ _ h => h) (Or.inl ⟨by rfl, ?_⟩) (by assumption) ?_
      rotate_left
      · intro X hSw
        go_simp
        try with_reducible rfl
      rotate_left
      try simp only [Act.put, List.setIfInBounds_toArray, List.set_cons_zero, List.set_cons_succ, List.getElem_toArray, List.getElem_cons_zero, List.getElem_cons_succ]
      refine wpAnyH_take (i := 1) (v := ?_) rfl (by kernel_rfl) (by kernel_rfl) (by kernel_rfl) (fun _ _ _ h => h) (Or.inl ⟨by rfl, ?_⟩) (by assumption) ?_
      rotate_left
      · intro X hSw
        have hc0 : X.cell? ⟨w.heap.size, 0, none⟩ = some (.int .i64 x.me) := cell_keep hSw px0
        have hc1 : X.cell? ⟨w.heap.size, 1, none⟩ = some (.int .i64 x.epoch) := cell_keep hSw px1
        have hc2 : X.cell? ⟨w.heap.size, 2, none⟩ = some (.int .i64 x.seq) := cell_keep hSw px2
        have hc3 : X.cell? ⟨w.heap.size, 3, none⟩ = some (.slice XJ x.jobs.length Xj) := cell_keep hSw px3
        have hc4 : X.cell? ⟨w.heap.size, 4, none⟩ = some (.int .i64 x.phase) := cell_keep hSw px4
        have hc5 : X.cell? ⟨w.heap.size, 5, none⟩ = some (.int .i64 x.n) := cell_keep hSw px5
        have hc6 : X.cell? ⟨w.heap.size, 6, none⟩ = some (.int .i64 x.stamp) := cell_keep hSw px6
        have hc7 : X.cell? ⟨w.heap.size, 7, none⟩ = some (.slice XT x.told.length Xt) := cell_keep hSw px7
        have hc8 : X.cell? ⟨w.heap.size, 8, none⟩ = some (.slice XN x.now.length Xn) := cell_keep hSw px8
        go_simp
        try with_reducible rfl
      rotate_left
      try simp only [Act.put, List.setIfInBounds_toArray, List.set_cons_zero, List.set_cons_succ, List.getElem_toArray, List.getElem_cons_zero, List.getElem_cons_succ]
      refine wpAnyH_take (i := 3) (v := ?_) rfl (by kernel_rfl) (by kernel_rfl) (by kernel_rfl) (fun _ _ _ h => h) (Or.inl ⟨by rfl, ?_⟩) (by assumption) ?_
      rotate_left
      · intro X hSw
        go_simp
        try with_reducible rfl
      rotate_left
      try simp only [Act.put, List.setIfInBounds_toArray, List.set_cons_zero, List.set_cons_succ, List.getElem_toArray, List.getElem_cons_zero, List.getElem_cons_succ]
      refine wpAnyH_take (i := 4) (v := ?_) rfl (by kernel_rfl) (by kernel_rfl) (by kernel_rfl) (fun _ _ _ h => h) (Or.inl ⟨by rfl, ?_⟩) (by assumption) ?_
      rotate_left
      · intro X hSw
        have hc0 : X.cell? ⟨w.heap.size + 1, 0, none⟩ = some (.int .i64 y.me) := cell_keep hSw py0
        have hc1 : X.cell? ⟨w.heap.size + 1, 1, none⟩ = some (.int .i64 y.epoch) := cell_keep hSw py1
        have hc2 : X.cell? ⟨w.heap.size + 1, 2, none⟩ = some (.int .i64 y.seq) := cell_keep hSw py2
        have hc3 : X.cell? ⟨w.heap.size + 1, 3, none⟩ = some (.slice YJ y.jobs.length Yj) := cell_keep hSw py3
        have hc4 : X.cell? ⟨w.heap.size + 1, 4, none⟩ = some (.int .i64 y.phase) := cell_keep hSw py4
        have hc5 : X.cell? ⟨w.heap.size + 1, 5, none⟩ = some (.int .i64 y.n) := cell_keep hSw py5
        have hc6 : X.cell? ⟨w.heap.size + 1, 6, none⟩ = some (.int .i64 y.stamp) := cell_keep hSw py6
        have hc7 : X.cell? ⟨w.heap.size + 1, 7, none⟩ = some (.slice YT y.told.length Yt) := cell_keep hSw py7
        have hc8 : X.cell? ⟨w.heap.size + 1, 8, none⟩ = some (.slice YN y.now.length Yn) := cell_keep hSw py8
        go_simp
        try with_reducible rfl
      rotate_left
      try simp only [Act.put, List.setIfInBounds_toArray, List.set_cons_zero, List.set_cons_succ, List.getElem_toArray, List.getElem_cons_zero, List.getElem_cons_succ]
      refine wpAnyH_ready (rs := [2]) (by kernel_rfl) (by simp) ?_
      refine (AllReadyH.cons rfl (fun K hK => ?_) AllReadyH.nil)
      rw [if_pos (by rfl)]
      go_wp2_with fail
      refine (client_numbers x _ _ _ rfl rfl rfl _).mono ?_
      rintro e wq ⟨rfl, hb⟩
      replace hHeld := below_trans hHeld hb (Below.size hHeld)
      clear hb
      refine hK.out _ _ hHeld (fun _ => ?_)
      clear hK K
      try simp only [Act.put, List.setIfInBounds_toArray, List.set_cons_zero, List.set_cons_succ, List.getElem_toArray, List.getElem_cons_zero, List.getElem_cons_succ]
      refine wpAnyH_ready (rs := [5]) (by kernel_rfl) (by simp) ?_
      refine (AllReadyH.cons rfl (fun K hK => ?_) AllReadyH.nil)
      rw [if_pos (by rfl)]
      go_wp2_with fail
      refine (client_numbers y _ _ _ rfl rfl rfl _).mono ?_
      rintro e wq ⟨rfl, hb⟩
      replace hHeld := below_trans hHeld hb (Below.size hHeld)
      clear hb
      refine hK.out _ _ hHeld (fun _ => ?_)
      clear hK K
      try simp only [Act.put, List.setIfInBounds_toArray, List.set_cons_zero, List.set_cons_succ, List.getElem_toArray, List.getElem_cons_zero, List.getElem_cons_succ]
      refine wpAnyH_take (i := 6) (v := ?_) rfl (by kernel_rfl) (by kernel_rfl) (by kernel_rfl) (fun _ _ _ h => h) (Or.inl ⟨by rfl, ?_⟩) (by assumption) ?_
      rotate_left
      · intro X hSw
        go_simp
        try with_reducible rfl
      rotate_left
      try simp only [Act.put, List.setIfInBounds_toArray, List.set_cons_zero, List.set_cons_succ, List.getElem_toArray, List.getElem_cons_zero, List.getElem_cons_succ]
      refine wpAnyH_take (i := 7) (v := ?_) rfl (by kernel_rfl) (by kernel_rfl) (by kernel_rfl) (fun _ _ _ h => h) (Or.inl ⟨by rfl, ?_⟩) (by assumption) ?_
      rotate_left
      · intro X hSw
        go_simp
        try with_reducible rfl
      rotate_left
      try simp only [Act.put, List.setIfInBounds_toArray, List.set_cons_zero, List.set_cons_succ, List.getElem_toArray, List.getElem_cons_zero, List.getElem_cons_succ]
      refine wpAnyH_take (i := 8) (v := ?_) rfl (by kernel_rfl) (by kernel_rfl) (by kernel_rfl) (fun _ _ _ h => h) (Or.inl ⟨by rfl, ?_⟩) (by assumption) ?_
      rotate_left
      · intro X hSw
        go_simp
        try with_reducible rfl
      rotate_left
      try simp only [Act.put, List.setIfInBounds_toArray, List.set_cons_zero, List.set_cons_succ, List.getElem_toArray, List.getElem_cons_zero, List.getElem_cons_succ]
      refine wpAnyH_take (i := 9) (v := ?_) rfl (by kernel_rfl) (by kernel_rfl) (by kernel_rfl) (fun _ _ _ h => h) (Or.inl ⟨by rfl, ?_⟩) (by assumption) ?_
      rotate_left
      · intro X hSw
        have hc0 : X.cell? ⟨w.heap.size, 3, none⟩ = some (.slice XJ x.jobs.length Xj) := cell_keep hSw px3
        go_simp
        try with_reducible rfl
      rotate_left
      try simp only [Act.put, List.setIfInBounds_toArray, List.set_cons_zero, List.set_cons_succ, List.getElem_toArray, List.getElem_cons_zero, List.getElem_cons_succ]
      refine wpAnyH_take (i := 10) (v := ?_) rfl (by kernel_rfl) (by kernel_rfl) (by kernel_rfl) (fun _ _ _ h => h) (Or.inl ⟨by rfl, ?_⟩) (by assumption) ?_
      rotate_left
      · intro X hSw
        go_simp
        try with_reducible rfl
      rotate_left
      try simp only [Act.put, List.setIfInBounds_toArray, List.set_cons_zero, List.set_cons_succ, List.getElem_toArray, List.getElem_cons_zero, List.getElem_cons_succ]
      refine wpAnyH_take (i := 11) (v := ?_) rfl (by kernel_rfl) (by kernel_rfl) (by kernel_rfl) (fun _ _ _ h => h) (Or.inl ⟨by rfl, ?_⟩) (by assumption) ?_
      rotate_left
      · intro X hSw
        have hc0 : X.cell? ⟨w.heap.size + 1, 3, none⟩ = some (.slice YJ y.jobs.length Yj) := cell_keep hSw py3
        go_simp
        try with_reducible rfl
      rotate_left
      try simp only [Act.put, List.setIfInBounds_toArray, List.set_cons_zero, List.set_cons_succ, List.getElem_toArray, List.getElem_cons_zero, List.getElem_cons_succ]
      refine wpAnyH_take (i := 12) (v := ?_) rfl (by kernel_rfl) (by kernel_rfl) (by kernel_rfl) (fun _ _ _ h => h) (Or.inl ⟨by rfl, ?_⟩) (by assumption) ?_
      rotate_left
      · intro X hSw
        go_simp
        try with_reducible rfl
      rotate_left
      try simp only [Act.put, List.setIfInBounds_toArray, List.set_cons_zero, List.set_cons_succ, List.getElem_toArray, List.getElem_cons_zero, List.getElem_cons_succ]
      refine wpAnyH_ready (rs := [13]) (by kernel_rfl) (by simp) ?_
      refine (AllReadyH.cons rfl (fun K hK => ?_) AllReadyH.nil)
      rw [if_pos (by rfl)]
      go_wp2_with fail
      refine (HJ.out _ hHeld).mono ?_
      rintro e wq ⟨rfl, hb⟩
      replace hHeld := below_trans hHeld hb (Below.size hHeld)
      clear hb
      refine hK.out _ _ hHeld (fun _ => ?_)
      clear hK K
      try simp only [Act.put, List.setIfInBounds_toArray, List.set_cons_zero, List.set_cons_succ, List.getElem_toArray, List.getElem_cons_zero, List.getElem_cons_succ]
      refine wpAnyH_take (i := 14) (v := ?_) rfl (by kernel_rfl) (by kernel_rfl) (by kernel_rfl) (fun _ _ _ h => h) (Or.inl ⟨by rfl, ?_⟩) (by assumption) ?_
      rotate_left
      · intro X hSw
        go_simp
        try with_reducible rfl
      rotate_left
      try simp only [Act.put, List.setIfInBounds_toArray, List.set_cons_zero, List.set_cons_succ, List.getElem_toArray, List.getElem_cons_zero, List.getElem_cons_succ]
      refine wpAnyH_take (i := 15) (v := ?_) rfl (by kernel_rfl) (by kernel_rfl) (by kernel_rfl) (fun _ _ _ h => h) (Or.inl ⟨by rfl, ?_⟩) (by assumption) ?_
      rotate_left
      · intro X hSw
        go_simp
        try with_reducible rfl
      rotate_left
      try simp only [Act.put, List.setIfInBounds_toArray, List.set_cons_zero, List.set_cons_succ, List.getElem_toArray, List.getElem_cons_zero, List.getElem_cons_succ]
      refine wpAnyH_take (i := 16) (v := undef) rfl (by kernel_rfl) (by kernel_rfl) (by kernel_rfl) (fun _ _ _ h => h) (Or.inr ⟨by rfl, rfl⟩) (by assumption) ?_
      try simp only [Act.put, List.setIfInBounds_toArray, List.set_cons_zero, List.set_cons_succ, List.getElem_toArray, List.getElem_cons_zero, List.getElem_cons_succ]
      refine wpAnyH_take (i := 17) (v := undef) rfl (by kernel_rfl) (by kernel_rfl) (by kernel_rfl) (fun _ _ _ h => h) (Or.inr ⟨by rfl, rfl⟩) (by assumption) ?_
      try simp only [Act.put, List.setIfInBounds_toArray, List.set_cons_zero, List.set_cons_succ, List.getElem_toArray, List.getElem_cons_zero, List.getElem_cons_succ]
      refine wpAnyH_take (i := 18) (v := undef) rfl (by kernel_rfl) (by kernel_rfl) (by kernel_rfl) (fun _ _ _ h => h) (Or.inr ⟨by rfl, rfl⟩) (by assumption) ?_
      try simp only [Act.put, List.setIfInBounds_toArray, List.set_cons_zero, List.set_cons_succ, List.getElem_toArray, List.getElem_cons_zero, List.getElem_cons_succ]
      refine wpAnyH_take (i := 19) (v := undef) rfl (by kernel_rfl) (by kernel_rfl) (by kernel_rfl) (fun _ _ _ h => h) (Or.inr ⟨by rfl, rfl⟩) (by assumption) ?_
      try simp only [Act.put, List.setIfInBounds_toArray, List.set_cons_zero, List.set_cons_succ, List.getElem_toArray, List.getElem_cons_zero, List.getElem_cons_succ]
      refine wpAnyH_take (i := 20) (v := undef) rfl (by kernel_rfl) (by kernel_rfl) (by kernel_rfl) (fun _ _ _ h => h) (Or.inr ⟨by rfl, rfl⟩) (by assumption) ?_
      try simp only [Act.put, List.setIfInBounds_toArray, List.set_cons_zero, List.set_cons_succ, List.getElem_toArray, List.getElem_cons_zero, List.getElem_cons_succ]
      refine wpAnyH_ready (rs := [21]) (by kernel_rfl) (by simp) ?_
      refine (AllReadyH.cons rfl (fun K hK => ?_) AllReadyH.nil)
      rw [if_neg (by intro h; exact absurd (show false = true from h) (by decide))]
      refine hK.out _ _ hHeld (fun _ => ?_)
      clear hK K
      try simp only [Act.put, List.setIfInBounds_toArray, List.set_cons_zero, List.set_cons_succ, List.getElem_toArray, List.getElem_cons_zero, List.getElem_cons_succ]
      refine wpAnyH_take (i := 22) (v := ?_) rfl (by kernel_rfl) (by kernel_rfl) (by kernel_rfl) (fun _ _ _ h => h) (Or.inl ⟨by rfl, ?_⟩) (by assumption) ?_
      rotate_left
      · intro X hSw
        go_simp
        try with_reducible rfl
      rotate_left
      try simp only [Act.put, List.setIfInBounds_toArray, List.set_cons_zero, List.set_cons_succ, List.getElem_toArray, List.getElem_cons_zero, List.getElem_cons_succ]
      refine wpAnyH_take (i := 23) (v := ?_) rfl (by kernel_rfl) (by kernel_rfl) (by kernel_rfl) (fun _ _ _ h => h) (Or.inl ⟨by rfl, ?_⟩) (by assumption) ?_
      rotate_left
      · intro X hSw
        go_simp
        try with_reducible rfl
      rotate_left
      try simp only [Act.put, List.setIfInBounds_toArray, List.set_cons_zero, List.set_cons_succ, List.getElem_toArray, List.getElem_cons_zero, List.getElem_cons_succ]
      refine wpAnyH_take (i := 24) (v := undef) rfl (by kernel_rfl) (by kernel_rfl) (by kernel_rfl) (fun _ _ _ h => h) (Or.inr ⟨by rfl, rfl⟩) (by assumption) ?_
      try simp only [Act.put, List.setIfInBounds_toArray, List.set_cons_zero, List.set_cons_succ, List.getElem_toArray, List.getElem_cons_zero, List.getElem_cons_succ]
      refine wpAnyH_take (i := 25) (v := undef) rfl (by kernel_rfl) (by kernel_rfl) (by kernel_rfl) (fun _ _ _ h => h) (Or.inr ⟨by rfl, rfl⟩) (by assumption) ?_
      try simp only [Act.put, List.setIfInBounds_toArray, List.set_cons_zero, List.set_cons_succ, List.getElem_toArray, List.getElem_cons_zero, List.getElem_cons_succ]
      refine wpAnyH_take (i := 26) (v := undef) rfl (by kernel_rfl) (by kernel_rfl) (by kernel_rfl) (fun _ _ _ h => h) (Or.inr ⟨by rfl, rfl⟩) (by assumption) ?_
      try simp only [Act.put, List.setIfInBounds_toArray, List.set_cons_zero, List.set_cons_succ, List.getElem_toArray, List.getElem_cons_zero, List.getElem_cons_succ]
      refine wpAnyH_take (i := 27) (v := undef) rfl (by kernel_rfl) (by kernel_rfl) (by kernel_rfl) (fun _ _ _ h => h) (Or.inr ⟨by rfl, rfl⟩) (by assumption) ?_
      try simp only [Act.put, List.setIfInBounds_toArray, List.set_cons_zero, List.set_cons_succ, List.getElem_toArray, List.getElem_cons_zero, List.getElem_cons_succ]
      refine wpAnyH_ready (rs := [28]) (by kernel_rfl) (by simp) ?_
      refine (AllReadyH.cons rfl (fun K hK => ?_) AllReadyH.nil)
      rw [if_neg (by intro h; exact absurd (show false = true from h) (by decide))]
      refine hK.out _ _ hHeld (fun _ => ?_)
      clear hK K
      try simp only [Act.put, List.setIfInBounds_toArray, List.set_cons_zero, List.set_cons_succ, List.getElem_toArray, List.getElem_cons_zero, List.getElem_cons_succ]
      refine wpAnyH_take (i := 29) (v := ?_) rfl (by kernel_rfl) (by kernel_rfl) (by kernel_rfl) (fun _ _ _ h => h) (Or.inl ⟨by rfl, ?_⟩) (by assumption) ?_
      rotate_left
      · intro X hSw
        go_simp
        try with_reducible rfl
      rotate_left
      try simp only [Act.put, List.setIfInBounds_toArray, List.set_cons_zero, List.set_cons_succ, List.getElem_toArray, List.getElem_cons_zero, List.getElem_cons_succ]
      refine wpAnyH_take (i := 30) (v := ?_) rfl (by kernel_rfl) (by kernel_rfl) (by kernel_rfl) (fun _ _ _ h => h) (Or.inl ⟨by rfl, ?_⟩) (by assumption) ?_
      rotate_left
      · intro X hSw
        go_simp
        try with_reducible rfl
      rotate_left
      try simp only [Act.put, List.setIfInBounds_toArray, List.set_cons_zero, List.set_cons_succ, List.getElem_toArray, List.getElem_cons_zero, List.getElem_cons_succ]
      refine wpAnyH_done (by kernel_rfl) ?_ _
      go_wp2_with fail
      go_ret
      exact ⟨by first | rfl | simp, below_trans HB.out hHeld HB.out.size⟩
    · cases bt
      · go_enter Try.func19, Try.ntmps19
        go_wp2_with fail
        rw [← HW.out]
        refine wp_region_held_drew (S := fun V => Below W0.heap.size W0 V) (by kernel_rfl) (below_dn (Below.refl _ _) 1) (fun hHeld => ?_)
        refine wpAnyH_take (i := 0) (v := ?_) rfl (by kernel_rfl) (by kernel_rfl) (by kernel_rfl) (fun _ _ _ h => h) (Or.inl ⟨by rfl, ?_⟩) (by assumption) ?_
        rotate_left
        · intro X hSw
          go_simp
          try with_reducible rfl
        rotate_left
        try simp only [Act.put, List.setIfInBounds_toArray, List.set_cons_zero, List.set_cons_succ, List.getElem_toArray, List.getElem_cons_zero, List.getElem_cons_succ]
        refine wpAnyH_take (i := 1) (v := ?_) rfl (by kernel_rfl) (by kernel_rfl) (by kernel_rfl) (fun _ _ _ h => h) (Or.inl ⟨by rfl, ?_⟩) (by assumption) ?_
        rotate_left
        · intro X hSw
          have hc0 : X.cell? ⟨w.heap.size, 0, none⟩ = some (.int .i64 x.me) := cell_keep hSw px0
          have hc1 : X.cell? ⟨w.heap.size, 1, none⟩ = some (.int .i64 x.epoch) := cell_keep hSw px1
          have hc2 : X.cell? ⟨w.heap.size, 2, none⟩ = some (.int .i64 x.seq) := cell_keep hSw px2
          have hc3 : X.cell? ⟨w.heap.size, 3, none⟩ = some (.slice XJ x.jobs.length Xj) := cell_keep hSw px3
          have hc4 : X.cell? ⟨w.heap.size, 4, none⟩ = some (.int .i64 x.phase) := cell_keep hSw px4
          have hc5 : X.cell? ⟨w.heap.size, 5, none⟩ = some (.int .i64 x.n) := cell_keep hSw px5
          have hc6 : X.cell? ⟨w.heap.size, 6, none⟩ = some (.int .i64 x.stamp) := cell_keep hSw px6
          have hc7 : X.cell? ⟨w.heap.size, 7, none⟩ = some (.slice XT x.told.length Xt) := cell_keep hSw px7
          have hc8 : X.cell? ⟨w.heap.size, 8, none⟩ = some (.slice XN x.now.length Xn) := cell_keep hSw px8
          go_simp
          try with_reducible rfl
        rotate_left
        try simp only [Act.put, List.setIfInBounds_toArray, List.set_cons_zero, List.set_cons_succ, List.getElem_toArray, List.getElem_cons_zero, List.getElem_cons_succ]
        refine wpAnyH_take (i := 3) (v := ?_) rfl (by kernel_rfl) (by kernel_rfl) (by kernel_rfl) (fun _ _ _ h => h) (Or.inl ⟨by rfl, ?_⟩) (by assumption) ?_
        rotate_left
        · intro X hSw
          go_simp
          try with_reducible rfl
        rotate_left
        try simp only [Act.put, List.setIfInBounds_toArray, List.set_cons_zero, List.set_cons_succ, List.getElem_toArray, List.getElem_cons_zero, List.getElem_cons_succ]
        refine wpAnyH_take (i := 4) (v := ?_) rfl (by kernel_rfl) (by kernel_rfl) (by kernel_rfl) (fun _ _ _ h => h) (Or.inl ⟨by rfl, ?_⟩) (by assumption) ?_
        rotate_left
        · intro X hSw
          have hc0 : X.cell? ⟨w.heap.size + 1, 0, none⟩ = some (.int .i64 y.me) := cell_keep hSw py0
          have hc1 : X.cell? ⟨w.heap.size + 1, 1, none⟩ = some (.int .i64 y.epoch) := cell_keep hSw py1
          have hc2 : X.cell? ⟨w.heap.size + 1, 2, none⟩ = some (.int .i64 y.seq) := cell_keep hSw py2
          have hc3 : X.cell? ⟨w.heap.size + 1, 3, none⟩ = some (.slice YJ y.jobs.length Yj) := cell_keep hSw py3
          have hc4 : X.cell? ⟨w.heap.size + 1, 4, none⟩ = some (.int .i64 y.phase) := cell_keep hSw py4
          have hc5 : X.cell? ⟨w.heap.size + 1, 5, none⟩ = some (.int .i64 y.n) := cell_keep hSw py5
          have hc6 : X.cell? ⟨w.heap.size + 1, 6, none⟩ = some (.int .i64 y.stamp) := cell_keep hSw py6
          have hc7 : X.cell? ⟨w.heap.size + 1, 7, none⟩ = some (.slice YT y.told.length Yt) := cell_keep hSw py7
          have hc8 : X.cell? ⟨w.heap.size + 1, 8, none⟩ = some (.slice YN y.now.length Yn) := cell_keep hSw py8
          go_simp
          try with_reducible rfl
        rotate_left
        try simp only [Act.put, List.setIfInBounds_toArray, List.set_cons_zero, List.set_cons_succ, List.getElem_toArray, List.getElem_cons_zero, List.getElem_cons_succ]
        refine wpAnyH_ready (rs := [2]) (by kernel_rfl) (by simp) ?_
        refine (AllReadyH.cons rfl (fun K hK => ?_) AllReadyH.nil)
        rw [if_pos (by rfl)]
        go_wp2_with fail
        refine (client_numbers x _ _ _ rfl rfl rfl _).mono ?_
        rintro e wq ⟨rfl, hb⟩
        replace hHeld := below_trans hHeld hb (Below.size hHeld)
        clear hb
        refine hK.out _ _ hHeld (fun _ => ?_)
        clear hK K
        try simp only [Act.put, List.setIfInBounds_toArray, List.set_cons_zero, List.set_cons_succ, List.getElem_toArray, List.getElem_cons_zero, List.getElem_cons_succ]
        refine wpAnyH_ready (rs := [5]) (by kernel_rfl) (by simp) ?_
        refine (AllReadyH.cons rfl (fun K hK => ?_) AllReadyH.nil)
        rw [if_pos (by rfl)]
        go_wp2_with fail
        refine (client_numbers y _ _ _ rfl rfl rfl _).mono ?_
        rintro e wq ⟨rfl, hb⟩
        replace hHeld := below_trans hHeld hb (Below.size hHeld)
        clear hb
        refine hK.out _ _ hHeld (fun _ => ?_)
        clear hK K
        try simp only [Act.put, List.setIfInBounds_toArray, List.set_cons_zero, List.set_cons_succ, List.getElem_toArray, List.getElem_cons_zero, List.getElem_cons_succ]
        refine wpAnyH_take (i := 6) (v := ?_) rfl (by kernel_rfl) (by kernel_rfl) (by kernel_rfl) (fun _ _ _ h => h) (Or.inl ⟨by rfl, ?_⟩) (by assumption) ?_
        rotate_left
        · intro X hSw
          go_simp
          try with_reducible rfl
        rotate_left
        try simp only [Act.put, List.setIfInBounds_toArray, List.set_cons_zero, List.set_cons_succ, List.getElem_toArray, List.getElem_cons_zero, List.getElem_cons_succ]
        refine wpAnyH_take (i := 7) (v := ?_) rfl (by kernel_rfl) (by kernel_rfl) (by kernel_rfl) (fun _ _ _ h => h) (Or.inl ⟨by rfl, ?_⟩) (by assumption) ?_
        rotate_left
        · intro X hSw
          go_simp
          try with_reducible rfl
        rotate_left
        try simp only [Act.put, List.setIfInBounds_toArray, List.set_cons_zero, List.set_cons_succ, List.getElem_toArray, List.getElem_cons_zero, List.getElem_cons_succ]
        refine wpAnyH_take (i := 8) (v := ?_) rfl (by kernel_rfl) (by kernel_rfl) (by kernel_rfl) (fun _ _ _ h => h) (Or.inl ⟨by rfl, ?_⟩) (by assumption) ?_
        rotate_left
        · intro X hSw
          go_simp
          try with_reducible rfl
        rotate_left
        try simp only [Act.put, List.setIfInBounds_toArray, List.set_cons_zero, List.set_cons_succ, List.getElem_toArray, List.getElem_cons_zero, List.getElem_cons_succ]
        refine wpAnyH_take (i := 9) (v := ?_) rfl (by kernel_rfl) (by kernel_rfl) (by kernel_rfl) (fun _ _ _ h => h) (Or.inl ⟨by rfl, ?_⟩) (by assumption) ?_
        rotate_left
        · intro X hSw
          have hc0 : X.cell? ⟨w.heap.size, 3, none⟩ = some (.slice XJ x.jobs.length Xj) := cell_keep hSw px3
          go_simp
          try with_reducible rfl
        rotate_left
        try simp only [Act.put, List.setIfInBounds_toArray, List.set_cons_zero, List.set_cons_succ, List.getElem_toArray, List.getElem_cons_zero, List.getElem_cons_succ]
        refine wpAnyH_take (i := 10) (v := ?_) rfl (by kernel_rfl) (by kernel_rfl) (by kernel_rfl) (fun _ _ _ h => h) (Or.inl ⟨by rfl, ?_⟩) (by assumption) ?_
        rotate_left
        · intro X hSw
          go_simp
          try with_reducible rfl
        rotate_left
        try simp only [Act.put, List.setIfInBounds_toArray, List.set_cons_zero, List.set_cons_succ, List.getElem_toArray, List.getElem_cons_zero, List.getElem_cons_succ]
        refine wpAnyH_take (i := 11) (v := ?_) rfl (by kernel_rfl) (by kernel_rfl) (by kernel_rfl) (fun _ _ _ h => h) (Or.inl ⟨by rfl, ?_⟩) (by assumption) ?_
        rotate_left
        · intro X hSw
          have hc0 : X.cell? ⟨w.heap.size + 1, 3, none⟩ = some (.slice YJ y.jobs.length Yj) := cell_keep hSw py3
          go_simp
          try with_reducible rfl
        rotate_left
        try simp only [Act.put, List.setIfInBounds_toArray, List.set_cons_zero, List.set_cons_succ, List.getElem_toArray, List.getElem_cons_zero, List.getElem_cons_succ]
        refine wpAnyH_take (i := 12) (v := ?_) rfl (by kernel_rfl) (by kernel_rfl) (by kernel_rfl) (fun _ _ _ h => h) (Or.inl ⟨by rfl, ?_⟩) (by assumption) ?_
        rotate_left
        · intro X hSw
          go_simp
          try with_reducible rfl
        rotate_left
        try simp only [Act.put, List.setIfInBounds_toArray, List.set_cons_zero, List.set_cons_succ, List.getElem_toArray, List.getElem_cons_zero, List.getElem_cons_succ]
        refine wpAnyH_ready (rs := [13]) (by kernel_rfl) (by simp) ?_
        refine (AllReadyH.cons rfl (fun K hK => ?_) AllReadyH.nil)
        rw [if_pos (by rfl)]
        go_wp2_with fail
        refine (HJ.out _ hHeld).mono ?_
        rintro e wq ⟨rfl, hb⟩
        replace hHeld := below_trans hHeld hb (Below.size hHeld)
        clear hb
        refine hK.out _ _ hHeld (fun _ => ?_)
        clear hK K
        try simp only [Act.put, List.setIfInBounds_toArray, List.set_cons_zero, List.set_cons_succ, List.getElem_toArray, List.getElem_cons_zero, List.getElem_cons_succ]
        refine wpAnyH_take (i := 14) (v := ?_) rfl (by kernel_rfl) (by kernel_rfl) (by kernel_rfl) (fun _ _ _ h => h) (Or.inl ⟨by rfl, ?_⟩) (by assumption) ?_
        rotate_left
        · intro X hSw
          go_simp
          try with_reducible rfl
        rotate_left
        try simp only [Act.put, List.setIfInBounds_toArray, List.set_cons_zero, List.set_cons_succ, List.getElem_toArray, List.getElem_cons_zero, List.getElem_cons_succ]
        refine wpAnyH_take (i := 15) (v := ?_) rfl (by kernel_rfl) (by kernel_rfl) (by kernel_rfl) (fun _ _ _ h => h) (Or.inl ⟨by rfl, ?_⟩) (by assumption) ?_
        rotate_left
        · intro X hSw
          go_simp
          try with_reducible rfl
        rotate_left
        try simp only [Act.put, List.setIfInBounds_toArray, List.set_cons_zero, List.set_cons_succ, List.getElem_toArray, List.getElem_cons_zero, List.getElem_cons_succ]
        refine wpAnyH_take (i := 16) (v := ?_) rfl (by kernel_rfl) (by kernel_rfl) (by kernel_rfl) (fun _ _ _ h => h) (Or.inl ⟨by rfl, ?_⟩) (by assumption) ?_
        rotate_left
        · intro X hSw
          go_simp
          try with_reducible rfl
        rotate_left
        try simp only [Act.put, List.setIfInBounds_toArray, List.set_cons_zero, List.set_cons_succ, List.getElem_toArray, List.getElem_cons_zero, List.getElem_cons_succ]
        refine wpAnyH_take (i := 17) (v := ?_) rfl (by kernel_rfl) (by kernel_rfl) (by kernel_rfl) (fun _ _ _ h => h) (Or.inl ⟨by rfl, ?_⟩) (by assumption) ?_
        rotate_left
        · intro X hSw
          have hc0 : X.cell? ⟨w.heap.size, 7, none⟩ = some (.slice XT x.told.length Xt) := cell_keep hSw px7
          go_simp
          try with_reducible rfl
        rotate_left
        try simp only [Act.put, List.setIfInBounds_toArray, List.set_cons_zero, List.set_cons_succ, List.getElem_toArray, List.getElem_cons_zero, List.getElem_cons_succ]
        refine wpAnyH_take (i := 18) (v := ?_) rfl (by kernel_rfl) (by kernel_rfl) (by kernel_rfl) (fun _ _ _ h => h) (Or.inl ⟨by rfl, ?_⟩) (by assumption) ?_
        rotate_left
        · intro X hSw
          go_simp
          try with_reducible rfl
        rotate_left
        try simp only [Act.put, List.setIfInBounds_toArray, List.set_cons_zero, List.set_cons_succ, List.getElem_toArray, List.getElem_cons_zero, List.getElem_cons_succ]
        refine wpAnyH_take (i := 19) (v := ?_) rfl (by kernel_rfl) (by kernel_rfl) (by kernel_rfl) (fun _ _ _ h => h) (Or.inl ⟨by rfl, ?_⟩) (by assumption) ?_
        rotate_left
        · intro X hSw
          have hc0 : X.cell? ⟨w.heap.size + 1, 7, none⟩ = some (.slice YT y.told.length Yt) := cell_keep hSw py7
          go_simp
          try with_reducible rfl
        rotate_left
        try simp only [Act.put, List.setIfInBounds_toArray, List.set_cons_zero, List.set_cons_succ, List.getElem_toArray, List.getElem_cons_zero, List.getElem_cons_succ]
        refine wpAnyH_take (i := 20) (v := ?_) rfl (by kernel_rfl) (by kernel_rfl) (by kernel_rfl) (fun _ _ _ h => h) (Or.inl ⟨by rfl, ?_⟩) (by assumption) ?_
        rotate_left
        · intro X hSw
          go_simp
          try with_reducible rfl
        rotate_left
        try simp only [Act.put, List.setIfInBounds_toArray, List.set_cons_zero, List.set_cons_succ, List.getElem_toArray, List.getElem_cons_zero, List.getElem_cons_succ]
        refine wpAnyH_ready (rs := [21]) (by kernel_rfl) (by simp) ?_
        refine (AllReadyH.cons rfl (fun K hK => ?_) AllReadyH.nil)
        rw [if_pos (by rfl)]
        go_wp2_with fail
        refine (HT.out _ hHeld).mono ?_
        rintro e wq ⟨rfl, hb⟩
        replace hHeld := below_trans hHeld hb (Below.size hHeld)
        clear hb
        refine hK.out _ _ hHeld (fun _ => ?_)
        clear hK K
        try simp only [Act.put, List.setIfInBounds_toArray, List.set_cons_zero, List.set_cons_succ, List.getElem_toArray, List.getElem_cons_zero, List.getElem_cons_succ]
        refine wpAnyH_take (i := 22) (v := ?_) rfl (by kernel_rfl) (by kernel_rfl) (by kernel_rfl) (fun _ _ _ h => h) (Or.inl ⟨by rfl, ?_⟩) (by assumption) ?_
        rotate_left
        · intro X hSw
          go_simp
          try with_reducible rfl
        rotate_left
        try simp only [Act.put, List.setIfInBounds_toArray, List.set_cons_zero, List.set_cons_succ, List.getElem_toArray, List.getElem_cons_zero, List.getElem_cons_succ]
        refine wpAnyH_take (i := 23) (v := ?_) rfl (by kernel_rfl) (by kernel_rfl) (by kernel_rfl) (fun _ _ _ h => h) (Or.inl ⟨by rfl, ?_⟩) (by assumption) ?_
        rotate_left
        · intro X hSw
          go_simp
          try with_reducible rfl
        rotate_left
        try simp only [Act.put, List.setIfInBounds_toArray, List.set_cons_zero, List.set_cons_succ, List.getElem_toArray, List.getElem_cons_zero, List.getElem_cons_succ]
        refine wpAnyH_take (i := 24) (v := undef) rfl (by kernel_rfl) (by kernel_rfl) (by kernel_rfl) (fun _ _ _ h => h) (Or.inr ⟨by rfl, rfl⟩) (by assumption) ?_
        try simp only [Act.put, List.setIfInBounds_toArray, List.set_cons_zero, List.set_cons_succ, List.getElem_toArray, List.getElem_cons_zero, List.getElem_cons_succ]
        refine wpAnyH_take (i := 25) (v := undef) rfl (by kernel_rfl) (by kernel_rfl) (by kernel_rfl) (fun _ _ _ h => h) (Or.inr ⟨by rfl, rfl⟩) (by assumption) ?_
        try simp only [Act.put, List.setIfInBounds_toArray, List.set_cons_zero, List.set_cons_succ, List.getElem_toArray, List.getElem_cons_zero, List.getElem_cons_succ]
        refine wpAnyH_take (i := 26) (v := undef) rfl (by kernel_rfl) (by kernel_rfl) (by kernel_rfl) (fun _ _ _ h => h) (Or.inr ⟨by rfl, rfl⟩) (by assumption) ?_
        try simp only [Act.put, List.setIfInBounds_toArray, List.set_cons_zero, List.set_cons_succ, List.getElem_toArray, List.getElem_cons_zero, List.getElem_cons_succ]
        refine wpAnyH_take (i := 27) (v := undef) rfl (by kernel_rfl) (by kernel_rfl) (by kernel_rfl) (fun _ _ _ h => h) (Or.inr ⟨by rfl, rfl⟩) (by assumption) ?_
        try simp only [Act.put, List.setIfInBounds_toArray, List.set_cons_zero, List.set_cons_succ, List.getElem_toArray, List.getElem_cons_zero, List.getElem_cons_succ]
        refine wpAnyH_ready (rs := [28]) (by kernel_rfl) (by simp) ?_
        refine (AllReadyH.cons rfl (fun K hK => ?_) AllReadyH.nil)
        rw [if_neg (by intro h; exact absurd (show false = true from h) (by decide))]
        refine hK.out _ _ hHeld (fun _ => ?_)
        clear hK K
        try simp only [Act.put, List.setIfInBounds_toArray, List.set_cons_zero, List.set_cons_succ, List.getElem_toArray, List.getElem_cons_zero, List.getElem_cons_succ]
        refine wpAnyH_take (i := 29) (v := ?_) rfl (by kernel_rfl) (by kernel_rfl) (by kernel_rfl) (fun _ _ _ h => h) (Or.inl ⟨by rfl, ?_⟩) (by assumption) ?_
        rotate_left
        · intro X hSw
          go_simp
          try with_reducible rfl
        rotate_left
        try simp only [Act.put, List.setIfInBounds_toArray, List.set_cons_zero, List.set_cons_succ, List.getElem_toArray, List.getElem_cons_zero, List.getElem_cons_succ]
        refine wpAnyH_take (i := 30) (v := ?_) rfl (by kernel_rfl) (by kernel_rfl) (by kernel_rfl) (fun _ _ _ h => h) (Or.inl ⟨by rfl, ?_⟩) (by assumption) ?_
        rotate_left
        · intro X hSw
          go_simp
          try with_reducible rfl
        rotate_left
        try simp only [Act.put, List.setIfInBounds_toArray, List.set_cons_zero, List.set_cons_succ, List.getElem_toArray, List.getElem_cons_zero, List.getElem_cons_succ]
        refine wpAnyH_done (by kernel_rfl) ?_ _
        go_wp2_with fail
        go_ret
        exact ⟨by first | rfl | simp, below_trans HB.out hHeld HB.out.size⟩
      · go_enter Try.func19, Try.ntmps19
        go_wp2_with fail
        rw [← HW.out]
        refine wp_region_held_drew (S := fun V => Below W0.heap.size W0 V) (by kernel_rfl) (below_dn (Below.refl _ _) 1) (fun hHeld => ?_)
        refine wpAnyH_take (i := 0) (v := ?_) rfl (by kernel_rfl) (by kernel_rfl) (by kernel_rfl) (fun _ _ _ h => h) (Or.inl ⟨by rfl, ?_⟩) (by assumption) ?_
        rotate_left
        · intro X hSw
          go_simp
          try with_reducible rfl
        rotate_left
        try simp only [Act.put, List.setIfInBounds_toArray, List.set_cons_zero, List.set_cons_succ, List.getElem_toArray, List.getElem_cons_zero, List.getElem_cons_succ]
        refine wpAnyH_take (i := 1) (v := ?_) rfl (by kernel_rfl) (by kernel_rfl) (by kernel_rfl) (fun _ _ _ h => h) (Or.inl ⟨by rfl, ?_⟩) (by assumption) ?_
        rotate_left
        · intro X hSw
          have hc0 : X.cell? ⟨w.heap.size, 0, none⟩ = some (.int .i64 x.me) := cell_keep hSw px0
          have hc1 : X.cell? ⟨w.heap.size, 1, none⟩ = some (.int .i64 x.epoch) := cell_keep hSw px1
          have hc2 : X.cell? ⟨w.heap.size, 2, none⟩ = some (.int .i64 x.seq) := cell_keep hSw px2
          have hc3 : X.cell? ⟨w.heap.size, 3, none⟩ = some (.slice XJ x.jobs.length Xj) := cell_keep hSw px3
          have hc4 : X.cell? ⟨w.heap.size, 4, none⟩ = some (.int .i64 x.phase) := cell_keep hSw px4
          have hc5 : X.cell? ⟨w.heap.size, 5, none⟩ = some (.int .i64 x.n) := cell_keep hSw px5
          have hc6 : X.cell? ⟨w.heap.size, 6, none⟩ = some (.int .i64 x.stamp) := cell_keep hSw px6
          have hc7 : X.cell? ⟨w.heap.size, 7, none⟩ = some (.slice XT x.told.length Xt) := cell_keep hSw px7
          have hc8 : X.cell? ⟨w.heap.size, 8, none⟩ = some (.slice XN x.now.length Xn) := cell_keep hSw px8
          go_simp
          try with_reducible rfl
        rotate_left
        try simp only [Act.put, List.setIfInBounds_toArray, List.set_cons_zero, List.set_cons_succ, List.getElem_toArray, List.getElem_cons_zero, List.getElem_cons_succ]
        refine wpAnyH_take (i := 3) (v := ?_) rfl (by kernel_rfl) (by kernel_rfl) (by kernel_rfl) (fun _ _ _ h => h) (Or.inl ⟨by rfl, ?_⟩) (by assumption) ?_
        rotate_left
        · intro X hSw
          go_simp
          try with_reducible rfl
        rotate_left
        try simp only [Act.put, List.setIfInBounds_toArray, List.set_cons_zero, List.set_cons_succ, List.getElem_toArray, List.getElem_cons_zero, List.getElem_cons_succ]
        refine wpAnyH_take (i := 4) (v := ?_) rfl (by kernel_rfl) (by kernel_rfl) (by kernel_rfl) (fun _ _ _ h => h) (Or.inl ⟨by rfl, ?_⟩) (by assumption) ?_
        rotate_left
        · intro X hSw
          have hc0 : X.cell? ⟨w.heap.size + 1, 0, none⟩ = some (.int .i64 y.me) := cell_keep hSw py0
          have hc1 : X.cell? ⟨w.heap.size + 1, 1, none⟩ = some (.int .i64 y.epoch) := cell_keep hSw py1
          have hc2 : X.cell? ⟨w.heap.size + 1, 2, none⟩ = some (.int .i64 y.seq) := cell_keep hSw py2
          have hc3 : X.cell? ⟨w.heap.size + 1, 3, none⟩ = some (.slice YJ y.jobs.length Yj) := cell_keep hSw py3
          have hc4 : X.cell? ⟨w.heap.size + 1, 4, none⟩ = some (.int .i64 y.phase) := cell_keep hSw py4
          have hc5 : X.cell? ⟨w.heap.size + 1, 5, none⟩ = some (.int .i64 y.n) := cell_keep hSw py5
          have hc6 : X.cell? ⟨w.heap.size + 1, 6, none⟩ = some (.int .i64 y.stamp) := cell_keep hSw py6
          have hc7 : X.cell? ⟨w.heap.size + 1, 7, none⟩ = some (.slice YT y.told.length Yt) := cell_keep hSw py7
          have hc8 : X.cell? ⟨w.heap.size + 1, 8, none⟩ = some (.slice YN y.now.length Yn) := cell_keep hSw py8
          go_simp
          try with_reducible rfl
        rotate_left
        try simp only [Act.put, List.setIfInBounds_toArray, List.set_cons_zero, List.set_cons_succ, List.getElem_toArray, List.getElem_cons_zero, List.getElem_cons_succ]
        refine wpAnyH_ready (rs := [2]) (by kernel_rfl) (by simp) ?_
        refine (AllReadyH.cons rfl (fun K hK => ?_) AllReadyH.nil)
        rw [if_pos (by rfl)]
        go_wp2_with fail
        refine (client_numbers x _ _ _ rfl rfl rfl _).mono ?_
        rintro e wq ⟨rfl, hb⟩
        replace hHeld := below_trans hHeld hb (Below.size hHeld)
        clear hb
        refine hK.out _ _ hHeld (fun _ => ?_)
        clear hK K
        try simp only [Act.put, List.setIfInBounds_toArray, List.set_cons_zero, List.set_cons_succ, List.getElem_toArray, List.getElem_cons_zero, List.getElem_cons_succ]
        refine wpAnyH_ready (rs := [5]) (by kernel_rfl) (by simp) ?_
        refine (AllReadyH.cons rfl (fun K hK => ?_) AllReadyH.nil)
        rw [if_pos (by rfl)]
        go_wp2_with fail
        refine (client_numbers y _ _ _ rfl rfl rfl _).mono ?_
        rintro e wq ⟨rfl, hb⟩
        replace hHeld := below_trans hHeld hb (Below.size hHeld)
        clear hb
        refine hK.out _ _ hHeld (fun _ => ?_)
        clear hK K
        try simp only [Act.put, List.setIfInBounds_toArray, List.set_cons_zero, List.set_cons_succ, List.getElem_toArray, List.getElem_cons_zero, List.getElem_cons_succ]
        refine wpAnyH_take (i := 6) (v := ?_) rfl (by kernel_rfl) (by kernel_rfl) (by kernel_rfl) (fun _ _ _ h => h) (Or.inl ⟨by rfl, ?_⟩) (by assumption) ?_
        rotate_left
        · intro X hSw
          go_simp
          try with_reducible rfl
        rotate_left
        try simp only [Act.put, List.setIfInBounds_toArray, List.set_cons_zero, List.set_cons_succ, List.getElem_toArray, List.getElem_cons_zero, List.getElem_cons_succ]
        refine wpAnyH_take (i := 7) (v := ?_) rfl (by kernel_rfl) (by kernel_rfl) (by kernel_rfl) (fun _ _ _ h => h) (Or.inl ⟨by rfl, ?_⟩) (by assumption) ?_
        rotate_left
        · intro X hSw
          go_simp
          try with_reducible rfl
        rotate_left
        try simp only [Act.put, List.setIfInBounds_toArray, List.set_cons_zero, List.set_cons_succ, List.getElem_toArray, List.getElem_cons_zero, List.getElem_cons_succ]
        refine wpAnyH_take (i := 8) (v := ?_) rfl (by kernel_rfl) (by kernel_rfl) (by kernel_rfl) (fun _ _ _ h => h) (Or.inl ⟨by rfl, ?_⟩) (by assumption) ?_
        rotate_left
        · intro X hSw
          go_simp
          try with_reducible rfl
        rotate_left
        try simp only [Act.put, List.setIfInBounds_toArray, List.set_cons_zero, List.set_cons_succ, List.getElem_toArray, List.getElem_cons_zero, List.getElem_cons_succ]
        refine wpAnyH_take (i := 9) (v := ?_) rfl (by kernel_rfl) (by kernel_rfl) (by kernel_rfl) (fun _ _ _ h => h) (Or.inl ⟨by rfl, ?_⟩) (by assumption) ?_
        rotate_left
        · intro X hSw
          have hc0 : X.cell? ⟨w.heap.size, 3, none⟩ = some (.slice XJ x.jobs.length Xj) := cell_keep hSw px3
          go_simp
          try with_reducible rfl
        rotate_left
        try simp only [Act.put, List.setIfInBounds_toArray, List.set_cons_zero, List.set_cons_succ, List.getElem_toArray, List.getElem_cons_zero, List.getElem_cons_succ]
        refine wpAnyH_take (i := 10) (v := ?_) rfl (by kernel_rfl) (by kernel_rfl) (by kernel_rfl) (fun _ _ _ h => h) (Or.inl ⟨by rfl, ?_⟩) (by assumption) ?_
        rotate_left
        · intro X hSw
          go_simp
          try with_reducible rfl
        rotate_left
        try simp only [Act.put, List.setIfInBounds_toArray, List.set_cons_zero, List.set_cons_succ, List.getElem_toArray, List.getElem_cons_zero, List.getElem_cons_succ]
        refine wpAnyH_take (i := 11) (v := ?_) rfl (by kernel_rfl) (by kernel_rfl) (by kernel_rfl) (fun _ _ _ h => h) (Or.inl ⟨by rfl, ?_⟩) (by assumption) ?_
        rotate_left
        · intro X hSw
          have hc0 : X.cell? ⟨w.heap.size + 1, 3, none⟩ = some (.slice YJ y.jobs.length Yj) := cell_keep hSw py3
          go_simp
          try with_reducible rfl
        rotate_left
        try simp only [Act.put, List.setIfInBounds_toArray, List.set_cons_zero, List.set_cons_succ, List.getElem_toArray, List.getElem_cons_zero, List.getElem_cons_succ]
        refine wpAnyH_take (i := 12) (v := ?_) rfl (by kernel_rfl) (by kernel_rfl) (by kernel_rfl) (fun _ _ _ h => h) (Or.inl ⟨by rfl, ?_⟩) (by assumption) ?_
        rotate_left
        · intro X hSw
          go_simp
          try with_reducible rfl
        rotate_left
        try simp only [Act.put, List.setIfInBounds_toArray, List.set_cons_zero, List.set_cons_succ, List.getElem_toArray, List.getElem_cons_zero, List.getElem_cons_succ]
        refine wpAnyH_ready (rs := [13]) (by kernel_rfl) (by simp) ?_
        refine (AllReadyH.cons rfl (fun K hK => ?_) AllReadyH.nil)
        rw [if_pos (by rfl)]
        go_wp2_with fail
        refine (HJ.out _ hHeld).mono ?_
        rintro e wq ⟨rfl, hb⟩
        replace hHeld := below_trans hHeld hb (Below.size hHeld)
        clear hb
        refine hK.out _ _ hHeld (fun _ => ?_)
        clear hK K
        try simp only [Act.put, List.setIfInBounds_toArray, List.set_cons_zero, List.set_cons_succ, List.getElem_toArray, List.getElem_cons_zero, List.getElem_cons_succ]
        refine wpAnyH_take (i := 14) (v := ?_) rfl (by kernel_rfl) (by kernel_rfl) (by kernel_rfl) (fun _ _ _ h => h) (Or.inl ⟨by rfl, ?_⟩) (by assumption) ?_
        rotate_left
        · intro X hSw
          go_simp
          try with_reducible rfl
        rotate_left
        try simp only [Act.put, List.setIfInBounds_toArray, List.set_cons_zero, List.set_cons_succ, List.getElem_toArray, List.getElem_cons_zero, List.getElem_cons_succ]
        refine wpAnyH_take (i := 15) (v := ?_) rfl (by kernel_rfl) (by kernel_rfl) (by kernel_rfl) (fun _ _ _ h => h) (Or.inl ⟨by rfl, ?_⟩) (by assumption) ?_
        rotate_left
        · intro X hSw
          go_simp
          try with_reducible rfl
        rotate_left
        try simp only [Act.put, List.setIfInBounds_toArray, List.set_cons_zero, List.set_cons_succ, List.getElem_toArray, List.getElem_cons_zero, List.getElem_cons_succ]
        refine wpAnyH_take (i := 16) (v := ?_) rfl (by kernel_rfl) (by kernel_rfl) (by kernel_rfl) (fun _ _ _ h => h) (Or.inl ⟨by rfl, ?_⟩) (by assumption) ?_
        rotate_left
        · intro X hSw
          go_simp
          try with_reducible rfl
        rotate_left
        try simp only [Act.put, List.setIfInBounds_toArray, List.set_cons_zero, List.set_cons_succ, List.getElem_toArray, List.getElem_cons_zero, List.getElem_cons_succ]
        refine wpAnyH_take (i := 17) (v := ?_) rfl (by kernel_rfl) (by kernel_rfl) (by kernel_rfl) (fun _ _ _ h => h) (Or.inl ⟨by rfl, ?_⟩) (by assumption) ?_
        rotate_left
        · intro X hSw
          have hc0 : X.cell? ⟨w.heap.size, 7, none⟩ = some (.slice XT x.told.length Xt) := cell_keep hSw px7
          go_simp
          try with_reducible rfl
        rotate_left
        try simp only [Act.put, List.setIfInBounds_toArray, List.set_cons_zero, List.set_cons_succ, List.getElem_toArray, List.getElem_cons_zero, List.getElem_cons_succ]
        refine wpAnyH_take (i := 18) (v := ?_) rfl (by kernel_rfl) (by kernel_rfl) (by kernel_rfl) (fun _ _ _ h => h) (Or.inl ⟨by rfl, ?_⟩) (by assumption) ?_
        rotate_left
        · intro X hSw
          go_simp
          try with_reducible rfl
        rotate_left
        try simp only [Act.put, List.setIfInBounds_toArray, List.set_cons_zero, List.set_cons_succ, List.getElem_toArray, List.getElem_cons_zero, List.getElem_cons_succ]
        refine wpAnyH_take (i := 19) (v := ?_) rfl (by kernel_rfl) (by kernel_rfl) (by kernel_rfl) (fun _ _ _ h => h) (Or.inl ⟨by rfl, ?_⟩) (by assumption) ?_
        rotate_left
        · intro X hSw
          have hc0 : X.cell? ⟨w.heap.size + 1, 7, none⟩ = some (.slice YT y.told.length Yt) := cell_keep hSw py7
          go_simp
          try with_reducible rfl
        rotate_left
        try simp only [Act.put, List.setIfInBounds_toArray, List.set_cons_zero, List.set_cons_succ, List.getElem_toArray, List.getElem_cons_zero, List.getElem_cons_succ]
        refine wpAnyH_take (i := 20) (v := ?_) rfl (by kernel_rfl) (by kernel_rfl) (by kernel_rfl) (fun _ _ _ h => h) (Or.inl ⟨by rfl, ?_⟩) (by assumption) ?_
        rotate_left
        · intro X hSw
          go_simp
          try with_reducible rfl
        rotate_left
        try simp only [Act.put, List.setIfInBounds_toArray, List.set_cons_zero, List.set_cons_succ, List.getElem_toArray, List.getElem_cons_zero, List.getElem_cons_succ]
        refine wpAnyH_ready (rs := [21]) (by kernel_rfl) (by simp) ?_
        refine (AllReadyH.cons rfl (fun K hK => ?_) AllReadyH.nil)
        rw [if_pos (by rfl)]
        go_wp2_with fail
        refine (HT.out _ hHeld).mono ?_
        rintro e wq ⟨rfl, hb⟩
        replace hHeld := below_trans hHeld hb (Below.size hHeld)
        clear hb
        refine hK.out _ _ hHeld (fun _ => ?_)
        clear hK K
        try simp only [Act.put, List.setIfInBounds_toArray, List.set_cons_zero, List.set_cons_succ, List.getElem_toArray, List.getElem_cons_zero, List.getElem_cons_succ]
        refine wpAnyH_take (i := 22) (v := ?_) rfl (by kernel_rfl) (by kernel_rfl) (by kernel_rfl) (fun _ _ _ h => h) (Or.inl ⟨by rfl, ?_⟩) (by assumption) ?_
        rotate_left
        · intro X hSw
          go_simp
          try with_reducible rfl
        rotate_left
        try simp only [Act.put, List.setIfInBounds_toArray, List.set_cons_zero, List.set_cons_succ, List.getElem_toArray, List.getElem_cons_zero, List.getElem_cons_succ]
        refine wpAnyH_take (i := 23) (v := ?_) rfl (by kernel_rfl) (by kernel_rfl) (by kernel_rfl) (fun _ _ _ h => h) (Or.inl ⟨by rfl, ?_⟩) (by assumption) ?_
        rotate_left
        · intro X hSw
          go_simp
          try with_reducible rfl
        rotate_left
        try simp only [Act.put, List.setIfInBounds_toArray, List.set_cons_zero, List.set_cons_succ, List.getElem_toArray, List.getElem_cons_zero, List.getElem_cons_succ]
        refine wpAnyH_take (i := 24) (v := ?_) rfl (by kernel_rfl) (by kernel_rfl) (by kernel_rfl) (fun _ _ _ h => h) (Or.inl ⟨by rfl, ?_⟩) (by assumption) ?_
        rotate_left
        · intro X hSw
          go_simp
          try with_reducible rfl
        rotate_left
        try simp only [Act.put, List.setIfInBounds_toArray, List.set_cons_zero, List.set_cons_succ, List.getElem_toArray, List.getElem_cons_zero, List.getElem_cons_succ]
        refine wpAnyH_take (i := 25) (v := ?_) rfl (by kernel_rfl) (by kernel_rfl) (by kernel_rfl) (fun _ _ _ h => h) (Or.inl ⟨by rfl, ?_⟩) (by assumption) ?_
        rotate_left
        · intro X hSw
          have hc0 : X.cell? ⟨w.heap.size, 8, none⟩ = some (.slice XN x.now.length Xn) := cell_keep hSw px8
          go_simp
          try with_reducible rfl
        rotate_left
        try simp only [Act.put, List.setIfInBounds_toArray, List.set_cons_zero, List.set_cons_succ, List.getElem_toArray, List.getElem_cons_zero, List.getElem_cons_succ]
        refine wpAnyH_take (i := 26) (v := ?_) rfl (by kernel_rfl) (by kernel_rfl) (by kernel_rfl) (fun _ _ _ h => h) (Or.inl ⟨by rfl, ?_⟩) (by assumption) ?_
        rotate_left
        · intro X hSw
          go_simp
          try with_reducible rfl
        rotate_left
        try simp only [Act.put, List.setIfInBounds_toArray, List.set_cons_zero, List.set_cons_succ, List.getElem_toArray, List.getElem_cons_zero, List.getElem_cons_succ]
        refine wpAnyH_take (i := 27) (v := ?_) rfl (by kernel_rfl) (by kernel_rfl) (by kernel_rfl) (fun _ _ _ h => h) (Or.inl ⟨by rfl, ?_⟩) (by assumption) ?_
        rotate_left
        · intro X hSw
          have hc0 : X.cell? ⟨w.heap.size + 1, 8, none⟩ = some (.slice YN y.now.length Yn) := cell_keep hSw py8
          go_simp
          try with_reducible rfl
        rotate_left
        try simp only [Act.put, List.setIfInBounds_toArray, List.set_cons_zero, List.set_cons_succ, List.getElem_toArray, List.getElem_cons_zero, List.getElem_cons_succ]
        refine wpAnyH_ready (rs := [28]) (by kernel_rfl) (by simp) ?_
        refine (AllReadyH.cons rfl (fun K hK => ?_) AllReadyH.nil)
        rw [if_pos (by rfl)]
        go_wp2_with fail
        refine (HN.out _ hHeld).mono ?_
        rintro e wq ⟨rfl, hb⟩
        replace hHeld := below_trans hHeld hb (Below.size hHeld)
        clear hb
        refine hK.out _ _ hHeld (fun _ => ?_)
        clear hK K
        try simp only [Act.put, List.setIfInBounds_toArray, List.set_cons_zero, List.set_cons_succ, List.getElem_toArray, List.getElem_cons_zero, List.getElem_cons_succ]
        refine wpAnyH_take (i := 29) (v := ?_) rfl (by kernel_rfl) (by kernel_rfl) (by kernel_rfl) (fun _ _ _ h => h) (Or.inl ⟨by rfl, ?_⟩) (by assumption) ?_
        rotate_left
        · intro X hSw
          go_simp
          try with_reducible rfl
        rotate_left
        try simp only [Act.put, List.setIfInBounds_toArray, List.set_cons_zero, List.set_cons_succ, List.getElem_toArray, List.getElem_cons_zero, List.getElem_cons_succ]
        refine wpAnyH_take (i := 30) (v := ?_) rfl (by kernel_rfl) (by kernel_rfl) (by kernel_rfl) (fun _ _ _ h => h) (Or.inl ⟨by rfl, ?_⟩) (by assumption) ?_
        rotate_left
        · intro X hSw
          go_simp
          try with_reducible rfl
        rotate_left
        try simp only [Act.put, List.setIfInBounds_toArray, List.set_cons_zero, List.set_cons_succ, List.getElem_toArray, List.getElem_cons_zero, List.getElem_cons_succ]
        refine wpAnyH_done (by kernel_rfl) ?_ _
        go_wp2_with fail
        go_ret
        exact ⟨by first | rfl | simp, below_trans HB.out hHeld HB.out.size⟩
set_option maxRecDepth 100000 in
set_option maxHeartbeats 8000000 in
theorem ref18_Same (x y : Cli) (vx vy : Value) (w : World) (hx : CliV w vx x) (hy : CliV w vy y) :
    Calls Try.prog 16 #[vx, vy] w fun e w' => e = .returned (.bool (decide (x = y))) ∧ Below w.heap.size w w' := by
  obtain ⟨jv, tv, nv, rfl, hx⟩ := hx
  obtain ⟨jv', tv', nv', rfl, hy⟩ := hy
  obtain ⟨XJ, Xj, XT, Xt, XN, Xn, rfl, rfl, rfl⟩ := hx.shape
  obtain ⟨YJ, Yj, YT, Yt, YN, Yn, rfl, rfl, rfl⟩ := hy.shape
  obtain ⟨W0, hW⟩ : ∃ W, W = (w.alloc (.cells #[.int .i64 x.me, .int .i64 x.epoch, .int .i64 x.seq, .slice XJ x.jobs.length Xj, .int .i64 x.phase, .int .i64 x.n, .int .i64 x.stamp, .slice XT x.told.length Xt, .slice XN x.now.length Xn] 26)).alloc (.cells #[.int .i64 y.me, .int .i64 y.epoch, .int .i64 y.seq, .slice YJ y.jobs.length Yj, .int .i64 y.phase, .int .i64 y.n, .int .i64 y.stamp, .slice YT y.told.length Yt, .slice YN y.now.length Yn] 26) := ⟨_, rfl⟩
  have hb : Below w.heap.size w W0 := by rw [hW]; exact ((Below.refl _ _).alloc (Nat.le_refl _) _).alloc (by simp) _
  have hpx : ∀ j v, (#[.int .i64 x.me, .int .i64 x.epoch, .int .i64 x.seq, .slice XJ x.jobs.length Xj, .int .i64 x.phase, .int .i64 x.n, .int .i64 x.stamp, .slice XT x.told.length Xt, .slice XN x.now.length Xn] : Array Value)[j]? = some v → W0.cell? ⟨w.heap.size, j, none⟩ = some v := fun j v h => by
    rw [hW]
    exact cell_alloc _ (by rw [cell_new]; exact h)
  have hpy : ∀ j v, (#[.int .i64 y.me, .int .i64 y.epoch, .int .i64 y.seq, .slice YJ y.jobs.length Yj, .int .i64 y.phase, .int .i64 y.n, .int .i64 y.stamp, .slice YT y.told.length Yt, .slice YN y.now.length Yn] : Array Value)[j]? = some v → W0.cell? ⟨w.heap.size + 1, j, none⟩ = some v := fun j v h => by
    rw [hW]
    have := cell_new (w.alloc (.cells #[.int .i64 x.me, .int .i64 x.epoch, .int .i64 x.seq, .slice XJ x.jobs.length Xj, .int .i64 x.phase, .int .i64 x.n, .int .i64 x.stamp, .slice XT x.told.length Xt, .slice XN x.now.length Xn] 26)) #[.int .i64 y.me, .int .i64 y.epoch, .int .i64 y.seq, .slice YJ y.jobs.length Yj, .int .i64 y.phase, .int .i64 y.n, .int .i64 y.stamp, .slice YT y.told.length Yt, .slice YN y.now.length Yn] 26 j
    rw [show (w.alloc (.cells #[.int .i64 x.me, .int .i64 x.epoch, .int .i64 x.seq, .slice XJ x.jobs.length Xj, .int .i64 x.phase, .int .i64 x.n, .int .i64 x.stamp, .slice XT x.told.length Xt, .slice XN x.now.length Xn] 26)).heap.size = w.heap.size + 1 from by simp] at this
    rw [this]; exact h
  have px0 : W0.cell? ⟨w.heap.size, 0, none⟩ = some (.int .i64 x.me) := hpx 0 _ rfl
  have px1 : W0.cell? ⟨w.heap.size, 1, none⟩ = some (.int .i64 x.epoch) := hpx 1 _ rfl
  have px2 : W0.cell? ⟨w.heap.size, 2, none⟩ = some (.int .i64 x.seq) := hpx 2 _ rfl
  have px3 : W0.cell? ⟨w.heap.size, 3, none⟩ = some (.slice XJ x.jobs.length Xj) := hpx 3 _ rfl
  have px4 : W0.cell? ⟨w.heap.size, 4, none⟩ = some (.int .i64 x.phase) := hpx 4 _ rfl
  have px5 : W0.cell? ⟨w.heap.size, 5, none⟩ = some (.int .i64 x.n) := hpx 5 _ rfl
  have px6 : W0.cell? ⟨w.heap.size, 6, none⟩ = some (.int .i64 x.stamp) := hpx 6 _ rfl
  have px7 : W0.cell? ⟨w.heap.size, 7, none⟩ = some (.slice XT x.told.length Xt) := hpx 7 _ rfl
  have px8 : W0.cell? ⟨w.heap.size, 8, none⟩ = some (.slice XN x.now.length Xn) := hpx 8 _ rfl
  have py0 : W0.cell? ⟨w.heap.size + 1, 0, none⟩ = some (.int .i64 y.me) := hpy 0 _ rfl
  have py1 : W0.cell? ⟨w.heap.size + 1, 1, none⟩ = some (.int .i64 y.epoch) := hpy 1 _ rfl
  have py2 : W0.cell? ⟨w.heap.size + 1, 2, none⟩ = some (.int .i64 y.seq) := hpy 2 _ rfl
  have py3 : W0.cell? ⟨w.heap.size + 1, 3, none⟩ = some (.slice YJ y.jobs.length Yj) := hpy 3 _ rfl
  have py4 : W0.cell? ⟨w.heap.size + 1, 4, none⟩ = some (.int .i64 y.phase) := hpy 4 _ rfl
  have py5 : W0.cell? ⟨w.heap.size + 1, 5, none⟩ = some (.int .i64 y.n) := hpy 5 _ rfl
  have py6 : W0.cell? ⟨w.heap.size + 1, 6, none⟩ = some (.int .i64 y.stamp) := hpy 6 _ rfl
  have py7 : W0.cell? ⟨w.heap.size + 1, 7, none⟩ = some (.slice YT y.told.length Yt) := hpy 7 _ rfl
  have py8 : W0.cell? ⟨w.heap.size + 1, 8, none⟩ = some (.slice YN y.now.length Yn) := hpy 8 _ rfl
  have HX := Lib.hid (hx.below hb)
  have HY := Lib.hid (hy.below hb)
  have HW := Lib.hid hW
  have HB := Lib.hid hb
  have ojx := hx.ok.2.1
  have otx := hx.ok.2.2.1
  have onx := hx.ok.2.2.2
  have ojy := hy.ok.2.1
  have oty := hy.ok.2.2.1
  have ony := hy.ok.2.2.2
  clear hx hy hb hW hpx hpy
  unfold cliC
  by_cases g0 : x.me = y.me
  · have q0 : ((x.me : Int) != (y.me : Int)) = false := by rw [g0]; simp
    by_cases g1 : x.epoch = y.epoch
    · have q1 : ((x.epoch : Int) != (y.epoch : Int)) = false := by rw [g1]; simp
      by_cases g2 : x.seq = y.seq
      · have q2 : ((x.seq : Int) != (y.seq : Int)) = false := by rw [g2]; simp
        by_cases g3 : x.phase = y.phase
        · have q3 : ((x.phase : Int) != (y.phase : Int)) = false := by rw [g3]; simp
          by_cases g4 : x.n = y.n
          · have q4 : ((x.n : Int) != (y.n : Int)) = false := by rw [g4]; simp
            by_cases g5 : x.stamp = y.stamp
            · have q5 : ((x.stamp : Int) != (y.stamp : Int)) = false := by rw [g5]; simp
              by_cases g6 : x.jobs.length = y.jobs.length
              · have q6 : ((x.jobs.length : Int) != (y.jobs.length : Int)) = false := by rw [g6]; simp
                have HLE := Lib.hid g6
                have HG : Hid (x.me = y.me ∧ x.epoch = y.epoch ∧ x.seq = y.seq ∧ x.phase = y.phase ∧ x.n = y.n ∧ x.stamp = y.stamp) := Lib.hid ⟨g0, g1, g2, g3, g4, g5⟩
                clear g0 g1 g2 g3 g4 g5 g6
                go_enter Try.func16, Try.ntmps16
                go_wp2_with fail
                rw [← HW.out]
                go_loopw [5] (fun si wr => ∃ k : Nat, si = .int .i64 k ∧ k ≤ x.jobs.length ∧ x.jobs.take k = y.jobs.take k ∧ Below W0.heap.size W0 wr) (fun si _ => x.jobs.length - (intOf si).toNat)
                case atStart => exact ⟨0, rfl, Nat.zero_le _, by simp, Below.refl _ _⟩
                case round =>
                  obtain ⟨k, rfl, hk, hp, hb⟩ := hrel
                  have c1 := cell_keep hb px3
                  have c2 := cell_keep hb py3
                  have HP := Lib.hid (And.intro hp hb)
                  have hbs := hb.size
                  clear hp hb
                  by_cases hlt : k < x.jobs.length
                  · have hlt' : k < y.jobs.length := by have := HLE.out; omega
                    have hi1 : (k : Int) < (x.jobs.length : Int) := by omega
                    have hi2 : (k : Int) < (y.jobs.length : Int) := by omega
                    have HST := Lib.hid (fun h => take_more HP.out.1 hlt hlt' h)
                    have HNO := Lib.hid (fun h => (decide_eq_false (fun h2 => getE_ne hlt hlt' h (by rw [h2])) : decide (x = y) = false))
                    obtain ⟨b1, o1, A1, c1', rfl, hb1, k0, hs1, ok1⟩ := (HX.out.jobs.below HP.out.2).at k hlt
                    obtain ⟨b2, o2, A2, c2', rfl, hb2, m0, hs2, ok2⟩ := (HY.out.jobs.below HP.out.2).at k hlt'
                    generalize x.jobs[k] = u at *
                    generalize y.jobs[k] = v at *
                    have HC := Lib.hid (fun W (h : Below wr.heap.size wr W) => ref18_calls u v _ _ W (hs1.below h) (hs2.below h) ok1 ok2)
                    clear hs1 hs2
                    go_wp2_with fail
                    refine wp_region_held_drew (S := fun V => Below wr.heap.size wr V) (by kernel_rfl) (below_dn (Below.refl _ _) 1) (fun hHeld => ?_)
                    refine wpAnyH_take (i := 0) (v := ?_) rfl (by kernel_rfl) (by kernel_rfl) (by kernel_rfl) (fun _ _ _ h => h) (Or.inl ⟨by rfl, ?_⟩) (by assumption) ?_
                    rotate_left
                    · intro X hSw
                      go_simp
                      try with_reducible rfl
                    rotate_left
                    try simp only [Act.put, List.setIfInBounds_toArray, List.set_cons_zero, List.set_cons_succ, List.getElem_toArray, List.getElem_cons_zero, List.getElem_cons_succ]
                    refine wpAnyH_take (i := 1) (v := ?_) rfl (by kernel_rfl) (by kernel_rfl) (by kernel_rfl) (fun _ _ _ h => h) (Or.inl ⟨by rfl, ?_⟩) (by assumption) ?_
                    rotate_left
                    · intro X hSw
                      have hc0 : X.cell? ⟨w.heap.size, 3, none⟩ = some (.slice (some ⟨b1, o1, none⟩) x.jobs.length Xj) := cell_keep hSw c1
                      go_simp
                      try with_reducible rfl
                    rotate_left
                    try simp only [Act.put, List.setIfInBounds_toArray, List.set_cons_zero, List.set_cons_succ, List.getElem_toArray, List.getElem_cons_zero, List.getElem_cons_succ]
                    refine wpAnyH_take (i := 2) (v := ?_) rfl (by kernel_rfl) (by kernel_rfl) (by kernel_rfl) (fun _ _ _ h => h) (Or.inl ⟨by rfl, ?_⟩) (by assumption) ?_
                    rotate_left
                    · intro X hSw
                      go_simp
                      try with_reducible rfl
                    rotate_left
                    try simp only [Act.put, List.setIfInBounds_toArray, List.set_cons_zero, List.set_cons_succ, List.getElem_toArray, List.getElem_cons_zero, List.getElem_cons_succ]
                    refine wpAnyH_take (i := 3) (v := ?_) rfl (by kernel_rfl) (by kernel_rfl) (by kernel_rfl) (fun _ _ _ h => h) (Or.inl ⟨by rfl, ?_⟩) (by assumption) ?_
                    rotate_left
                    · intro X hSw
                      go_simp
                      try with_reducible rfl
                    rotate_left
                    try simp only [Act.put, List.setIfInBounds_toArray, List.set_cons_zero, List.set_cons_succ, List.getElem_toArray, List.getElem_cons_zero, List.getElem_cons_succ]
                    refine wpAnyH_take (i := 4) (v := ?_) rfl (by kernel_rfl) (by kernel_rfl) (by kernel_rfl) (fun _ _ _ h => h) (Or.inl ⟨by rfl, ?_⟩) (by assumption) ?_
                    rotate_left
                    · intro X hSw
                      have hc0 : X.cell? ⟨b1, o1 + k, none⟩ = some (.slice A1 u.length c1') := cell_keep hSw k0
                      go_simp
                      try with_reducible rfl
                    rotate_left
                    try simp only [Act.put, List.setIfInBounds_toArray, List.set_cons_zero, List.set_cons_succ, List.getElem_toArray, List.getElem_cons_zero, List.getElem_cons_succ]
                    refine wpAnyH_take (i := 5) (v := ?_) rfl (by kernel_rfl) (by kernel_rfl) (by kernel_rfl) (fun _ _ _ h => h) (Or.inl ⟨by rfl, ?_⟩) (by assumption) ?_
                    rotate_left
                    · intro X hSw
                      go_simp
                      try with_reducible rfl
                    rotate_left
                    try simp only [Act.put, List.setIfInBounds_toArray, List.set_cons_zero, List.set_cons_succ, List.getElem_toArray, List.getElem_cons_zero, List.getElem_cons_succ]
                    refine wpAnyH_take (i := 6) (v := ?_) rfl (by kernel_rfl) (by kernel_rfl) (by kernel_rfl) (fun _ _ _ h => h) (Or.inl ⟨by rfl, ?_⟩) (by assumption) ?_
                    rotate_left
                    · intro X hSw
                      have hc0 : X.cell? ⟨w.heap.size + 1, 3, none⟩ = some (.slice (some ⟨b2, o2, none⟩) y.jobs.length Yj) := cell_keep hSw c2
                      go_simp
                      try with_reducible rfl
                    rotate_left
                    try simp only [Act.put, List.setIfInBounds_toArray, List.set_cons_zero, List.set_cons_succ, List.getElem_toArray, List.getElem_cons_zero, List.getElem_cons_succ]
                    refine wpAnyH_take (i := 7) (v := ?_) rfl (by kernel_rfl) (by kernel_rfl) (by kernel_rfl) (fun _ _ _ h => h) (Or.inl ⟨by rfl, ?_⟩) (by assumption) ?_
                    rotate_left
                    · intro X hSw
                      go_simp
                      try with_reducible rfl
                    rotate_left
                    try simp only [Act.put, List.setIfInBounds_toArray, List.set_cons_zero, List.set_cons_succ, List.getElem_toArray, List.getElem_cons_zero, List.getElem_cons_succ]
                    refine wpAnyH_take (i := 8) (v := ?_) rfl (by kernel_rfl) (by kernel_rfl) (by kernel_rfl) (fun _ _ _ h => h) (Or.inl ⟨by rfl, ?_⟩) (by assumption) ?_
                    rotate_left
                    · intro X hSw
                      go_simp
                      try with_reducible rfl
                    rotate_left
                    try simp only [Act.put, List.setIfInBounds_toArray, List.set_cons_zero, List.set_cons_succ, List.getElem_toArray, List.getElem_cons_zero, List.getElem_cons_succ]
                    refine wpAnyH_take (i := 9) (v := ?_) rfl (by kernel_rfl) (by kernel_rfl) (by kernel_rfl) (fun _ _ _ h => h) (Or.inl ⟨by rfl, ?_⟩) (by assumption) ?_
                    rotate_left
                    · intro X hSw
                      have hc0 : X.cell? ⟨b2, o2 + k, none⟩ = some (.slice A2 v.length c2') := cell_keep hSw m0
                      go_simp
                      try with_reducible rfl
                    rotate_left
                    try simp only [Act.put, List.setIfInBounds_toArray, List.set_cons_zero, List.set_cons_succ, List.getElem_toArray, List.getElem_cons_zero, List.getElem_cons_succ]
                    refine wpAnyH_ready (rs := [10]) (by kernel_rfl) (by simp) ?_
                    refine (AllReadyH.cons rfl (fun K hK => ?_) AllReadyH.nil)
                    rw [if_pos (by rfl)]
                    go_wp2_with fail
                    refine (HC.out _ hHeld).mono ?_
                    rintro e wq ⟨rfl, hb⟩
                    replace hHeld := below_trans hHeld hb (Below.size hHeld)
                    clear hb
                    refine hK.out _ _ hHeld (fun _ => ?_)
                    clear hK K
                    try simp only [Act.put, List.setIfInBounds_toArray, List.set_cons_zero, List.set_cons_succ, List.getElem_toArray, List.getElem_cons_zero, List.getElem_cons_succ]
                    refine wpAnyH_take (i := 11) (v := ?_) rfl (by kernel_rfl) (by kernel_rfl) (by kernel_rfl) (fun _ _ _ h => h) (Or.inl ⟨by rfl, ?_⟩) (by assumption) ?_
                    rotate_left
                    · intro X hSw
                      go_simp
                      try with_reducible rfl
                    rotate_left
                    try simp only [Act.put, List.setIfInBounds_toArray, List.set_cons_zero, List.set_cons_succ, List.getElem_toArray, List.getElem_cons_zero, List.getElem_cons_succ]
                    refine wpAnyH_done (by kernel_rfl) ?_ _
                    have HB4 := Lib.hid (below_trans HP.out.2 hHeld hbs)
                    clear hHeld
                    by_cases hrow : u = v
                    · rw [decide_eq_true hrow]
                      have HN := Lib.hid (HST.out hrow)
                      clear hrow HNO HST
                      go_wp2_with fail
                      go_roundw
                      case rel => exact ⟨k + 1, by go_num, by omega, HN.out, HB4.out⟩
                      case measure => simp [intOf]; omega
                    · rw [decide_eq_false hrow]
                      have HF := Lib.hid (HNO.out hrow)
                      clear hrow HNO HST
                      go_wp2_with fail
                      go_ret
                      exact ⟨by rw [HF.out]; rfl, below_trans HB.out HB4.out HB.out.size⟩
                  · have HJ := Lib.hid (take_all HP.out.1 (by omega) HLE.out)
                    have c7 := cell_keep HP.out.2 px7
                    have d7 := cell_keep HP.out.2 py7
                    have c8 := cell_keep HP.out.2 px8
                    have d8 := cell_keep HP.out.2 py8
                    go_wp2_with fail
                    refine (ref18_SameDone x.told y.told _ _ _ (HX.out.told.below HP.out.2) (HY.out.told.below HP.out.2) otx oty).mono ?_
                    rintro e w1 ⟨rfl, hb1⟩
                    have c8 := cell_keep hb1 c8
                    have d8 := cell_keep hb1 d8
                    have HB1 := Lib.hid (below_trans HP.out.2 hb1 hbs)
                    clear hb1
                    go_wp2_with fail
                    refine (ref11_All x.now y.now _ _ _ (HX.out.now.below HB1.out) (HY.out.now.below HB1.out) onx ony).mono ?_
                    rintro e w2 ⟨rfl, hb2⟩
                    have HB2 := Lib.hid (below_trans HB.out (below_trans HB1.out hb2 HB1.out.size) HB.out.size)
                    clear hb2
                    have hfin : decide (x = y) = (decide (x.told = y.told) && decide (x.now = y.now)) := by
                      have h1 := HG.out
                      have h2 := HJ.out
                      rw [Bool.eq_iff_iff]
                      obtain ⟨_, _, _, _, _, _, _, _, _⟩ := x
                      obtain ⟨_, _, _, _, _, _, _, _, _⟩ := y
                      simp only at h1 h2
                      simp [h1, h2]
                    have HFIN := Lib.hid hfin
                    clear hfin
                    generalize decide (x.told = y.told) = dt at *
                    cases dt
                    · go_wp2_with fail
                      go_ret
                      exact ⟨by rw [HFIN.out]; rfl, HB2.out⟩
                    · go_wp2_with fail
                      go_ret
                      exact ⟨by rw [HFIN.out]; rfl, HB2.out⟩
              · have q6 : ((x.jobs.length : Int) != (y.jobs.length : Int)) = true := by rw [bne_iff_ne]; omega
                have HF := Lib.hid (show decide (x = y) = false from decide_eq_false (fun h => g6 (by rw [h])))
                clear g0 g1 g2 g3 g4 g5 g6
                go_enter Try.func16, Try.ntmps16
                go_wp2_with fail
                rw [← HW.out]
                go_ret
                exact ⟨by rw [HF.out]; rfl, HB.out⟩
            · have q5 : ((x.stamp : Int) != (y.stamp : Int)) = true := by rw [bne_iff_ne]; omega
              have HF := Lib.hid (show decide (x = y) = false from decide_eq_false (fun h => g5 (by rw [h])))
              clear g0 g1 g2 g3 g4 g5
              go_enter Try.func16, Try.ntmps16
              go_wp2_with fail
              rw [← HW.out]
              go_ret
              exact ⟨by rw [HF.out]; rfl, HB.out⟩
          · have q4 : ((x.n : Int) != (y.n : Int)) = true := by rw [bne_iff_ne]; omega
            have HF := Lib.hid (show decide (x = y) = false from decide_eq_false (fun h => g4 (by rw [h])))
            clear g0 g1 g2 g3 g4
            go_enter Try.func16, Try.ntmps16
            go_wp2_with fail
            rw [← HW.out]
            go_ret
            exact ⟨by rw [HF.out]; rfl, HB.out⟩
        · have q3 : ((x.phase : Int) != (y.phase : Int)) = true := by rw [bne_iff_ne]; omega
          have HF := Lib.hid (show decide (x = y) = false from decide_eq_false (fun h => g3 (by rw [h])))
          clear g0 g1 g2 g3
          go_enter Try.func16, Try.ntmps16
          go_wp2_with fail
          rw [← HW.out]
          go_ret
          exact ⟨by rw [HF.out]; rfl, HB.out⟩
      · have q2 : ((x.seq : Int) != (y.seq : Int)) = true := by rw [bne_iff_ne]; omega
        have HF := Lib.hid (show decide (x = y) = false from decide_eq_false (fun h => g2 (by rw [h])))
        clear g0 g1 g2
        go_enter Try.func16, Try.ntmps16
        go_wp2_with fail
        rw [← HW.out]
        go_ret
        exact ⟨by rw [HF.out]; rfl, HB.out⟩
    · have q1 : ((x.epoch : Int) != (y.epoch : Int)) = true := by rw [bne_iff_ne]; omega
      have HF := Lib.hid (show decide (x = y) = false from decide_eq_false (fun h => g1 (by rw [h])))
      clear g0 g1
      go_enter Try.func16, Try.ntmps16
      go_wp2_with fail
      rw [← HW.out]
      go_ret
      exact ⟨by rw [HF.out]; rfl, HB.out⟩
  · have q0 : ((x.me : Int) != (y.me : Int)) = true := by rw [bne_iff_ne]; omega
    have HF := Lib.hid (show decide (x = y) = false from decide_eq_false (fun h => g0 (by rw [h])))
    clear g0
    go_enter Try.func16, Try.ntmps16
    go_wp2_with fail
    rw [← HW.out]
    go_ret
    exact ⟨by rw [HF.out]; rfl, HB.out⟩
end Go.Proofs.Ytpdedjbkfcaebaa
