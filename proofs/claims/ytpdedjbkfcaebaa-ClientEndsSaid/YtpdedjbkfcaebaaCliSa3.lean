/- client.Say, copyholdref18.Say in the phase of calls, and whole: they answer as the document says; old memory is as it was. -/
import Derived.Test.YtpdedjbkfcaebaaCliSa2
set_option linter.unusedVariables false
set_option linter.unusedSimpArgs false
namespace Go.Proofs.Ytpdedjbkfcaebaa
open Go.RowKit Copyhold
def Say3 (w : World) (X M : Array Value) (V : World) : Prop := TBox V w.heap.size 26 X ∧ TBox V (w.heap.size + 1) 38 #[.int .i64 0, .int .i64 0, .int .i64 0, .int .i64 0, .int .i64 0, .int .i64 0, .int .i64 0, .int .i64 0, .int .i64 0, .int .i64 0, .int .i64 0, .string ⟨#[]⟩, .string ⟨#[]⟩, .string ⟨#[]⟩] ∧ TBox V (w.heap.size + 2) 38 M ∧ Below w.heap.size w V
theorem Say3.below {w V V' : World} {X M : Array Value} (h : Say3 w X M V) (hb : Below V.heap.size V V') : Say3 w X M V' := ⟨h.1.below hb, h.2.1.below hb, h.2.2.1.below hb, below_trans h.2.2.2 hb h.2.2.2.size⟩
theorem Say3.set {w V : World} {X M : Array Value} (h : Say3 w X M V) (j : Nat) (u : Value) : Say3 w X (M.setIfInBounds j u) (V.setCell ⟨w.heap.size + 2, j, none⟩ u) :=
  ⟨h.1.far _ _ _ (by omega), h.2.1.far _ _ _ (by omega), h.2.2.1.set j u, h.2.2.2.setCell (by simp) u⟩
set_option maxRecDepth 100000 in
set_option maxHeartbeats 4000000 in
theorem client_Say1 (x : Cli) (v : Value) (w : World) (hx : CliV w v x) (hp : x.phase = 1) (hnn : x.n ≤ 1000000) :
    Calls Try.prog 12 #[v] w (RetMsg w (sayD x)) := by
  obtain ⟨jv, tv, nv, rfl, hx⟩ := hx
  obtain ⟨XJ, Xj, XT, Xt, XN, Xn, rfl, rfl, rfl⟩ := hx.shape
  obtain ⟨⟨⟨me1, me2⟩, ⟨ep1, ep2⟩, ⟨sq1, sq2⟩, ⟨ph1, ph2⟩, ⟨nn1, nn2⟩, ⟨st1, st2⟩⟩, ojx, otx, onx⟩ := id hx.ok
  obtain ⟨W0, hW⟩ : ∃ W, W = ((w.alloc (.cells #[.int .i64 x.me, .int .i64 x.epoch, .int .i64 x.seq, .slice XJ x.jobs.length Xj, .int .i64 x.phase, .int .i64 x.n, .int .i64 x.stamp, .slice XT x.told.length Xt, .slice XN x.now.length Xn] 26)).alloc (.cells #[.int .i64 0, .int .i64 0, .int .i64 0, .int .i64 0, .int .i64 0, .int .i64 0, .int .i64 0, .int .i64 0, .int .i64 0, .int .i64 0, .int .i64 0, .string ⟨#[]⟩, .string ⟨#[]⟩, .string ⟨#[]⟩] 38)).alloc (.cells #[.int .i64 0, .int .i64 x.me, .int .i64 x.epoch, .int .i64 x.seq, .int .i64 0, .int .i64 0, .int .i64 0, .int .i64 0, .int .i64 0, .int .i64 0, .int .i64 0, .string ⟨#[]⟩, .string ⟨#[]⟩, .string ⟨#[]⟩] 38) := ⟨_, rfl⟩
  have hb : Below w.heap.size w W0 := by rw [hW]; exact (((Below.refl _ _).alloc (Nat.le_refl _) _).alloc (by simp <;> omega) _).alloc (by simp <;> omega) _
  have hp0 : ∀ j v, (#[.int .i64 x.me, .int .i64 x.epoch, .int .i64 x.seq, .slice XJ x.jobs.length Xj, .int .i64 x.phase, .int .i64 x.n, .int .i64 x.stamp, .slice XT x.told.length Xt, .slice XN x.now.length Xn] : Array Value)[j]? = some v → W0.cell? ⟨w.heap.size, j, none⟩ = some v := fun j v h => by
    rw [hW]
    have := cell_new (w) #[.int .i64 x.me, .int .i64 x.epoch, .int .i64 x.seq, .slice XJ x.jobs.length Xj, .int .i64 x.phase, .int .i64 x.n, .int .i64 x.stamp, .slice XT x.told.length Xt, .slice XN x.now.length Xn] 26 j
    exact cell_alloc _ (cell_alloc _ (by rw [this]; exact h))
  have hp1 : ∀ j v, (#[.int .i64 0, .int .i64 0, .int .i64 0, .int .i64 0, .int .i64 0, .int .i64 0, .int .i64 0, .int .i64 0, .int .i64 0, .int .i64 0, .int .i64 0, .string ⟨#[]⟩, .string ⟨#[]⟩, .string ⟨#[]⟩] : Array Value)[j]? = some v → W0.cell? ⟨w.heap.size + 1, j, none⟩ = some v := fun j v h => by
    rw [hW]
    have := cell_new ((w.alloc (.cells #[.int .i64 x.me, .int .i64 x.epoch, .int .i64 x.seq, .slice XJ x.jobs.length Xj, .int .i64 x.phase, .int .i64 x.n, .int .i64 x.stamp, .slice XT x.told.length Xt, .slice XN x.now.length Xn] 26))) #[.int .i64 0, .int .i64 0, .int .i64 0, .int .i64 0, .int .i64 0, .int .i64 0, .int .i64 0, .int .i64 0, .int .i64 0, .int .i64 0, .int .i64 0, .string ⟨#[]⟩, .string ⟨#[]⟩, .string ⟨#[]⟩] 38 j
    rw [show ((w.alloc (.cells #[.int .i64 x.me, .int .i64 x.epoch, .int .i64 x.seq, .slice XJ x.jobs.length Xj, .int .i64 x.phase, .int .i64 x.n, .int .i64 x.stamp, .slice XT x.told.length Xt, .slice XN x.now.length Xn] 26))).heap.size = w.heap.size + 1 from by simp] at this
    exact cell_alloc _ (by rw [this]; exact h)
  have hp2 : ∀ j v, (#[.int .i64 0, .int .i64 x.me, .int .i64 x.epoch, .int .i64 x.seq, .int .i64 0, .int .i64 0, .int .i64 0, .int .i64 0, .int .i64 0, .int .i64 0, .int .i64 0, .string ⟨#[]⟩, .string ⟨#[]⟩, .string ⟨#[]⟩] : Array Value)[j]? = some v → W0.cell? ⟨w.heap.size + 2, j, none⟩ = some v := fun j v h => by
    rw [hW]
    have := cell_new (((w.alloc (.cells #[.int .i64 x.me, .int .i64 x.epoch, .int .i64 x.seq, .slice XJ x.jobs.length Xj, .int .i64 x.phase, .int .i64 x.n, .int .i64 x.stamp, .slice XT x.told.length Xt, .slice XN x.now.length Xn] 26)).alloc (.cells #[.int .i64 0, .int .i64 0, .int .i64 0, .int .i64 0, .int .i64 0, .int .i64 0, .int .i64 0, .int .i64 0, .int .i64 0, .int .i64 0, .int .i64 0, .string ⟨#[]⟩, .string ⟨#[]⟩, .string ⟨#[]⟩] 38))) #[.int .i64 0, .int .i64 x.me, .int .i64 x.epoch, .int .i64 x.seq, .int .i64 0, .int .i64 0, .int .i64 0, .int .i64 0, .int .i64 0, .int .i64 0, .int .i64 0, .string ⟨#[]⟩, .string ⟨#[]⟩, .string ⟨#[]⟩] 38 j
    rw [show (((w.alloc (.cells #[.int .i64 x.me, .int .i64 x.epoch, .int .i64 x.seq, .slice XJ x.jobs.length Xj, .int .i64 x.phase, .int .i64 x.n, .int .i64 x.stamp, .slice XT x.told.length Xt, .slice XN x.now.length Xn] 26)).alloc (.cells #[.int .i64 0, .int .i64 0, .int .i64 0, .int .i64 0, .int .i64 0, .int .i64 0, .int .i64 0, .int .i64 0, .int .i64 0, .int .i64 0, .int .i64 0, .string ⟨#[]⟩, .string ⟨#[]⟩, .string ⟨#[]⟩] 38))).heap.size = w.heap.size + 2 from by simp] at this
    exact by rw [this]; exact h
  have px0 : W0.cell? ⟨w.heap.size, 0, none⟩ = some (.int .i64 x.me) := hp0 0 _ rfl
  have px1 : W0.cell? ⟨w.heap.size, 1, none⟩ = some (.int .i64 x.epoch) := hp0 1 _ rfl
  have px2 : W0.cell? ⟨w.heap.size, 2, none⟩ = some (.int .i64 x.seq) := hp0 2 _ rfl
  have px3 : W0.cell? ⟨w.heap.size, 3, none⟩ = some (.slice XJ x.jobs.length Xj) := hp0 3 _ rfl
  have px4 : W0.cell? ⟨w.heap.size, 4, none⟩ = some (.int .i64 x.phase) := hp0 4 _ rfl
  have px5 : W0.cell? ⟨w.heap.size, 5, none⟩ = some (.int .i64 x.n) := hp0 5 _ rfl
  have px6 : W0.cell? ⟨w.heap.size, 6, none⟩ = some (.int .i64 x.stamp) := hp0 6 _ rfl
  have px7 : W0.cell? ⟨w.heap.size, 7, none⟩ = some (.slice XT x.told.length Xt) := hp0 7 _ rfl
  have px8 : W0.cell? ⟨w.heap.size, 8, none⟩ = some (.slice XN x.now.length Xn) := hp0 8 _ rfl
  have pa0 : W0.cell? ⟨w.heap.size + 1, 0, none⟩ = some (.int .i64 0) := hp1 0 _ rfl
  have pa1 : W0.cell? ⟨w.heap.size + 1, 1, none⟩ = some (.int .i64 0) := hp1 1 _ rfl
  have pa2 : W0.cell? ⟨w.heap.size + 1, 2, none⟩ = some (.int .i64 0) := hp1 2 _ rfl
  have pa3 : W0.cell? ⟨w.heap.size + 1, 3, none⟩ = some (.int .i64 0) := hp1 3 _ rfl
  have pa4 : W0.cell? ⟨w.heap.size + 1, 4, none⟩ = some (.int .i64 0) := hp1 4 _ rfl
  have pa5 : W0.cell? ⟨w.heap.size + 1, 5, none⟩ = some (.int .i64 0) := hp1 5 _ rfl
  have pa6 : W0.cell? ⟨w.heap.size + 1, 6, none⟩ = some (.int .i64 0) := hp1 6 _ rfl
  have pa7 : W0.cell? ⟨w.heap.size + 1, 7, none⟩ = some (.int .i64 0) := hp1 7 _ rfl
  have pa8 : W0.cell? ⟨w.heap.size + 1, 8, none⟩ = some (.int .i64 0) := hp1 8 _ rfl
  have pa9 : W0.cell? ⟨w.heap.size + 1, 9, none⟩ = some (.int .i64 0) := hp1 9 _ rfl
  have pa10 : W0.cell? ⟨w.heap.size + 1, 10, none⟩ = some (.int .i64 0) := hp1 10 _ rfl
  have pa11 : W0.cell? ⟨w.heap.size + 1, 11, none⟩ = some (.string ⟨#[]⟩) := hp1 11 _ rfl
  have pa12 : W0.cell? ⟨w.heap.size + 1, 12, none⟩ = some (.string ⟨#[]⟩) := hp1 12 _ rfl
  have pa13 : W0.cell? ⟨w.heap.size + 1, 13, none⟩ = some (.string ⟨#[]⟩) := hp1 13 _ rfl
  have pb0 : W0.cell? ⟨w.heap.size + 2, 0, none⟩ = some (.int .i64 0) := hp2 0 _ rfl
  have pb1 : W0.cell? ⟨w.heap.size + 2, 1, none⟩ = some (.int .i64 x.me) := hp2 1 _ rfl
  have pb2 : W0.cell? ⟨w.heap.size + 2, 2, none⟩ = some (.int .i64 x.epoch) := hp2 2 _ rfl
  have pb3 : W0.cell? ⟨w.heap.size + 2, 3, none⟩ = some (.int .i64 x.seq) := hp2 3 _ rfl
  have pb4 : W0.cell? ⟨w.heap.size + 2, 4, none⟩ = some (.int .i64 0) := hp2 4 _ rfl
  have pb5 : W0.cell? ⟨w.heap.size + 2, 5, none⟩ = some (.int .i64 0) := hp2 5 _ rfl
  have pb6 : W0.cell? ⟨w.heap.size + 2, 6, none⟩ = some (.int .i64 0) := hp2 6 _ rfl
  have pb7 : W0.cell? ⟨w.heap.size + 2, 7, none⟩ = some (.int .i64 0) := hp2 7 _ rfl
  have pb8 : W0.cell? ⟨w.heap.size + 2, 8, none⟩ = some (.int .i64 0) := hp2 8 _ rfl
  have pb9 : W0.cell? ⟨w.heap.size + 2, 9, none⟩ = some (.int .i64 0) := hp2 9 _ rfl
  have pb10 : W0.cell? ⟨w.heap.size + 2, 10, none⟩ = some (.int .i64 0) := hp2 10 _ rfl
  have pb11 : W0.cell? ⟨w.heap.size + 2, 11, none⟩ = some (.string ⟨#[]⟩) := hp2 11 _ rfl
  have pb12 : W0.cell? ⟨w.heap.size + 2, 12, none⟩ = some (.string ⟨#[]⟩) := hp2 12 _ rfl
  have pb13 : W0.cell? ⟨w.heap.size + 2, 13, none⟩ = some (.string ⟨#[]⟩) := hp2 13 _ rfl
  have HX := Lib.hid (hx.below hb)
  have HW := Lib.hid hW
  have HB := Lib.hid hb
  clear hx hb hW hp0 hp1 hp2
  have hT0 : TBox W0 (w.heap.size) 26 #[.int .i64 x.me, .int .i64 x.epoch, .int .i64 x.seq, .slice XJ x.jobs.length Xj, .int .i64 x.phase, .int .i64 x.n, .int .i64 x.stamp, .slice XT x.told.length Xt, .slice XN x.now.length Xn] := by
    rw [HW.out]
    have h := TBox.new (w) 26 #[.int .i64 x.me, .int .i64 x.epoch, .int .i64 x.seq, .slice XJ x.jobs.length Xj, .int .i64 x.phase, .int .i64 x.n, .int .i64 x.stamp, .slice XT x.told.length Xt, .slice XN x.now.length Xn]
    exact ((h).below ((Below.refl _ _).alloc (Nat.le_refl _) _)).below ((Below.refl _ _).alloc (Nat.le_refl _) _)
  have hT1 : TBox W0 (w.heap.size + 1) 38 #[.int .i64 0, .int .i64 0, .int .i64 0, .int .i64 0, .int .i64 0, .int .i64 0, .int .i64 0, .int .i64 0, .int .i64 0, .int .i64 0, .int .i64 0, .string ⟨#[]⟩, .string ⟨#[]⟩, .string ⟨#[]⟩] := by
    rw [HW.out]
    have h := TBox.new (w.alloc (.cells #[.int .i64 x.me, .int .i64 x.epoch, .int .i64 x.seq, .slice XJ x.jobs.length Xj, .int .i64 x.phase, .int .i64 x.n, .int .i64 x.stamp, .slice XT x.told.length Xt, .slice XN x.now.length Xn] 26)) 38 #[.int .i64 0, .int .i64 0, .int .i64 0, .int .i64 0, .int .i64 0, .int .i64 0, .int .i64 0, .int .i64 0, .int .i64 0, .int .i64 0, .int .i64 0, .string ⟨#[]⟩, .string ⟨#[]⟩, .string ⟨#[]⟩]
    rw [show (w.alloc (.cells #[.int .i64 x.me, .int .i64 x.epoch, .int .i64 x.seq, .slice XJ x.jobs.length Xj, .int .i64 x.phase, .int .i64 x.n, .int .i64 x.stamp, .slice XT x.told.length Xt, .slice XN x.now.length Xn] 26)).heap.size = w.heap.size + 1 from by simp] at h
    exact (h).below ((Below.refl _ _).alloc (Nat.le_refl _) _)
  have hT2 : TBox W0 (w.heap.size + 2) 38 #[.int .i64 0, .int .i64 x.me, .int .i64 x.epoch, .int .i64 x.seq, .int .i64 0, .int .i64 0, .int .i64 0, .int .i64 0, .int .i64 0, .int .i64 0, .int .i64 0, .string ⟨#[]⟩, .string ⟨#[]⟩, .string ⟨#[]⟩] := by
    rw [HW.out]
    have h := TBox.new ((w.alloc (.cells #[.int .i64 x.me, .int .i64 x.epoch, .int .i64 x.seq, .slice XJ x.jobs.length Xj, .int .i64 x.phase, .int .i64 x.n, .int .i64 x.stamp, .slice XT x.told.length Xt, .slice XN x.now.length Xn] 26)).alloc (.cells #[.int .i64 0, .int .i64 0, .int .i64 0, .int .i64 0, .int .i64 0, .int .i64 0, .int .i64 0, .int .i64 0, .int .i64 0, .int .i64 0, .int .i64 0, .string ⟨#[]⟩, .string ⟨#[]⟩, .string ⟨#[]⟩] 38)) 38 #[.int .i64 0, .int .i64 x.me, .int .i64 x.epoch, .int .i64 x.seq, .int .i64 0, .int .i64 0, .int .i64 0, .int .i64 0, .int .i64 0, .int .i64 0, .int .i64 0, .string ⟨#[]⟩, .string ⟨#[]⟩, .string ⟨#[]⟩]
    rw [show ((w.alloc (.cells #[.int .i64 x.me, .int .i64 x.epoch, .int .i64 x.seq, .slice XJ x.jobs.length Xj, .int .i64 x.phase, .int .i64 x.n, .int .i64 x.stamp, .slice XT x.told.length Xt, .slice XN x.now.length Xn] 26)).alloc (.cells #[.int .i64 0, .int .i64 0, .int .i64 0, .int .i64 0, .int .i64 0, .int .i64 0, .int .i64 0, .int .i64 0, .int .i64 0, .int .i64 0, .int .i64 0, .string ⟨#[]⟩, .string ⟨#[]⟩, .string ⟨#[]⟩] 38)).heap.size = w.heap.size + 2 from by simp] at h
    exact h
  have HQ0 := Lib.hid (show Say3 w _ _ W0 from ⟨hT0, hT1, hT2, HB.out⟩)
  have HM := Lib.hid (show sayD x = (⟨2, x.me, x.epoch, x.seq, x.n + 1, x.stamp, nextD x⟩, true) from by simp [sayD, hp])
  have f0 : (x.phase == 0) = false := by rw [beq_eq_false_iff_ne]; omega
  have f1 : (x.phase == 1) = true := by rw [beq_iff_eq]; omega
  have f2 : (x.phase == 2) = false := by rw [beq_eq_false_iff_ne]; omega
  have f3 : (x.phase == 3) = false := by rw [beq_eq_false_iff_ne]; omega
  have f4 : (x.phase == 4) = false := by rw [beq_eq_false_iff_ne]; omega
  have hnb : x.n + 1 ≤ 9223372036854775807 := by omega
  clear hp hT0 hT1 hT2 px0 px1 px2 px3 px4 px5 px6 px7 px8 pa0 pa1 pa2 pa3 pa4 pa5 pa6 pa7 pa8 pa9 pa10 pa11 pa12 pa13 pb0 pb1 pb2 pb3 pb4 pb5 pb6 pb7 pb8 pb9 pb10 pb11 pb12 pb13
  unfold cliC at *
  go_enter Try.func12, Try.ntmps12
  go_wp2_with fail
  rw [← HW.out]
  refine wp_region_held_drew (S := fun V => ∃ M, Say3 w #[.int .i64 x.me, .int .i64 x.epoch, .int .i64 x.seq, .slice XJ x.jobs.length Xj, .int .i64 x.phase, .int .i64 x.n, .int .i64 x.stamp, .slice XT x.told.length Xt, .slice XN x.now.length Xn] M V) (by kernel_rfl) (⟨_, HQ0.out.below (below_dn (Below.refl _ _) 1)⟩) (fun hHeld => ?_)
  refine wpAnyH_take (i := 0) (v := ?_) rfl (by kernel_rfl) (by kernel_rfl) (by kernel_rfl) (fun _ _ _ h => h) (Or.inl ⟨by rfl, ?_⟩) (by assumption) ?_
  rotate_left
  · intro X hSw
    go_simp
    try with_reducible rfl
  rotate_left
  try simp only [Act.put, List.setIfInBounds_toArray, List.set_cons_zero, List.set_cons_succ, List.getElem_toArray, List.getElem_cons_zero, List.getElem_cons_succ]
  refine wpAnyH_take (i := 1) (v := ?_) rfl (by kernel_rfl) (by kernel_rfl) (by kernel_rfl) (fun _ _ _ h => h) (Or.inl ⟨by rfl, ?_⟩) (by assumption) ?_
  rotate_left
  · intro X hSw
    obtain ⟨_, hS1⟩ := hSw
    have hc0 : X.cell? ⟨w.heap.size, 5, none⟩ = some (.int .i64 x.n) := hS1.1.cell 5
    go_simp
    try with_reducible rfl
  rotate_left
  try simp only [Act.put, List.setIfInBounds_toArray, List.set_cons_zero, List.set_cons_succ, List.getElem_toArray, List.getElem_cons_zero, List.getElem_cons_succ]
  refine wpAnyH_take (i := 2) (v := ?_) rfl (by kernel_rfl) (by kernel_rfl) (by kernel_rfl) (fun _ _ _ h => h) (Or.inl ⟨by rfl, ?_⟩) (by assumption) ?_
  rotate_left
  · intro X hSw
    go_simp
    try with_reducible rfl
  rotate_left
  try simp only [Act.put, List.setIfInBounds_toArray, List.set_cons_zero, List.set_cons_succ, List.getElem_toArray, List.getElem_cons_zero, List.getElem_cons_succ]
  refine wpAnyH_take (i := 3) (v := ?_) rfl (by kernel_rfl) (by kernel_rfl) (by kernel_rfl) (fun _ _ _ h => h) (Or.inl ⟨by rfl, ?_⟩) (by assumption) ?_
  rotate_left
  · intro X hSw
    go_simp
    try with_reducible rfl
  rotate_left
  try simp only [Act.put, List.setIfInBounds_toArray, List.set_cons_zero, List.set_cons_succ, List.getElem_toArray, List.getElem_cons_zero, List.getElem_cons_succ]
  refine wpAnyH_take (i := 4) (v := ?_) rfl (by kernel_rfl) (by kernel_rfl) (by kernel_rfl) (fun _ _ _ h => h) (Or.inl ⟨by rfl, ?_⟩) (by assumption) ?_
  rotate_left
  · intro X hSw
    obtain ⟨_, hS1⟩ := hSw
    have hc0 : X.cell? ⟨w.heap.size, 6, none⟩ = some (.int .i64 x.stamp) := hS1.1.cell 6
    go_simp
    try with_reducible rfl
  rotate_left
  try simp only [Act.put, List.setIfInBounds_toArray, List.set_cons_zero, List.set_cons_succ, List.getElem_toArray, List.getElem_cons_zero, List.getElem_cons_succ]
  refine wpAnyH_take (i := 5) (v := ?_) rfl (by kernel_rfl) (by kernel_rfl) (by kernel_rfl) (fun _ _ _ h => h) (Or.inl ⟨by rfl, ?_⟩) (by assumption) ?_
  rotate_left
  · intro X hSw
    obtain ⟨_, hS1⟩ := hSw
    have hc0 : X.cell? ⟨w.heap.size, 0, none⟩ = some (.int .i64 x.me) := hS1.1.cell 0
    have hc1 : X.cell? ⟨w.heap.size, 1, none⟩ = some (.int .i64 x.epoch) := hS1.1.cell 1
    have hc2 : X.cell? ⟨w.heap.size, 2, none⟩ = some (.int .i64 x.seq) := hS1.1.cell 2
    have hc3 : X.cell? ⟨w.heap.size, 3, none⟩ = some (.slice XJ x.jobs.length Xj) := hS1.1.cell 3
    have hc4 : X.cell? ⟨w.heap.size, 4, none⟩ = some (.int .i64 x.phase) := hS1.1.cell 4
    have hc5 : X.cell? ⟨w.heap.size, 5, none⟩ = some (.int .i64 x.n) := hS1.1.cell 5
    have hc6 : X.cell? ⟨w.heap.size, 6, none⟩ = some (.int .i64 x.stamp) := hS1.1.cell 6
    have hc7 : X.cell? ⟨w.heap.size, 7, none⟩ = some (.slice XT x.told.length Xt) := hS1.1.cell 7
    have hc8 : X.cell? ⟨w.heap.size, 8, none⟩ = some (.slice XN x.now.length Xn) := hS1.1.cell 8
    go_simp
    try with_reducible rfl
  rotate_left
  try simp only [Act.put, List.setIfInBounds_toArray, List.set_cons_zero, List.set_cons_succ, List.getElem_toArray, List.getElem_cons_zero, List.getElem_cons_succ]
  refine wpAnyH_take (i := 7) (v := ?_) rfl (by kernel_rfl) (by kernel_rfl) (by kernel_rfl) (fun _ _ _ h => h) (Or.inl ⟨by rfl, ?_⟩) (by assumption) ?_
  rotate_left
  · intro X hSw
    go_simp
    try with_reducible rfl
  rotate_left
  try simp only [Act.put, List.setIfInBounds_toArray, List.set_cons_zero, List.set_cons_succ, List.getElem_toArray, List.getElem_cons_zero, List.getElem_cons_succ]
  refine wpAnyH_ready (rs := [6]) (by kernel_rfl) (by simp) ?_
  refine (AllReadyH.cons rfl (fun K hK => ?_) AllReadyH.nil)
  rw [if_pos (by rfl)]
  go_wp2_with fail
  refine (client_next x _ _ ⟨_, _, _, rfl, HX.out.below (below_dn (Below.refl _ _) 1)⟩).mono ?_
  rintro e V0 ⟨rfl, hb⟩
  have HQ1 := Lib.hid ((HQ0.out.below (below_dn (Below.refl _ _) 1)).below hb)
  clear hb
  refine hK.out _ _ ⟨_, HQ1.out⟩ (fun _ => ?_)
  clear hK K HQ0
  unfold calC txV
  generalize nextD x = u at *
  try simp only [Act.put, List.setIfInBounds_toArray, List.set_cons_zero, List.set_cons_succ, List.getElem_toArray, List.getElem_cons_zero, List.getElem_cons_succ]
  refine wpAnyH_ready (rs := [8]) (by kernel_rfl) (by simp) ?_
  refine (AllReadyH.cons rfl (fun K hK => ?_) AllReadyH.nil)
  rw [if_pos (by rfl)]
  have c0 : V0.cell? ⟨w.heap.size + 2, 0, none⟩ = some (.int .i64 0) := HQ1.out.2.2.1.cell 0
  have f0 : V0.frozen? ⟨w.heap.size + 2, 0, none⟩ = false := HQ1.out.2.2.1.free 0
  go_wp2_with fail
  have HQ2 : Hid (Say3 w #[.int .i64 x.me, .int .i64 x.epoch, .int .i64 x.seq, .slice XJ x.jobs.length Xj, .int .i64 x.phase, .int .i64 x.n, .int .i64 x.stamp, .slice XT x.told.length Xt, .slice XN x.now.length Xn] #[.int .i64 2, .int .i64 x.me, .int .i64 x.epoch, .int .i64 x.seq, .int .i64 0, .int .i64 0, .int .i64 0, .int .i64 0, .int .i64 0, .int .i64 0, .int .i64 0, .string ⟨#[]⟩, .string ⟨#[]⟩, .string ⟨#[]⟩] (V0.setCell ⟨w.heap.size + 2, 0, none⟩ (.int .i64 2))) := Lib.hid (by have h := (HQ1.out.set 0 (.int .i64 2)); simpa only [List.setIfInBounds_toArray, List.set_cons_zero, List.set_cons_succ] using h)
  generalize V0.setCell ⟨w.heap.size + 2, 0, none⟩ (.int .i64 2) = V1 at *
  refine hK.out _ _ ⟨_, HQ2.out⟩ (fun _ => ?_)
  clear hK K HQ1 c0 f0
  try simp only [Act.put, List.setIfInBounds_toArray, List.set_cons_zero, List.set_cons_succ, List.getElem_toArray, List.getElem_cons_zero, List.getElem_cons_succ]
  refine wpAnyH_take (i := 9) (v := ?_) rfl (by kernel_rfl) (by kernel_rfl) (by kernel_rfl) (fun _ _ _ h => h) (Or.inl ⟨by rfl, ?_⟩) (by assumption) ?_
  rotate_left
  · intro X hSw
    go_simp
    try with_reducible rfl
  rotate_left
  try simp only [Act.put, List.setIfInBounds_toArray, List.set_cons_zero, List.set_cons_succ, List.getElem_toArray, List.getElem_cons_zero, List.getElem_cons_succ]
  refine wpAnyH_ready (rs := [10]) (by kernel_rfl) (by simp) ?_
  refine (AllReadyH.cons rfl (fun K hK => ?_) AllReadyH.nil)
  rw [if_pos (by rfl)]
  have c4 : V1.cell? ⟨w.heap.size + 2, 4, none⟩ = some (.int .i64 0) := HQ2.out.2.2.1.cell 4
  have f4 : V1.frozen? ⟨w.heap.size + 2, 4, none⟩ = false := HQ2.out.2.2.1.free 4
  go_wp2_with fail
  have HQ3 : Hid (Say3 w #[.int .i64 x.me, .int .i64 x.epoch, .int .i64 x.seq, .slice XJ x.jobs.length Xj, .int .i64 x.phase, .int .i64 x.n, .int .i64 x.stamp, .slice XT x.told.length Xt, .slice XN x.now.length Xn] #[.int .i64 2, .int .i64 x.me, .int .i64 x.epoch, .int .i64 x.seq, .int .i64 (x.n + 1), .int .i64 0, .int .i64 0, .int .i64 0, .int .i64 0, .int .i64 0, .int .i64 0, .string ⟨#[]⟩, .string ⟨#[]⟩, .string ⟨#[]⟩] (V1.setCell ⟨w.heap.size + 2, 4, none⟩ (.int .i64 (x.n + 1)))) := Lib.hid (by have h := (HQ2.out.set 4 (.int .i64 (x.n + 1))); simpa only [List.setIfInBounds_toArray, List.set_cons_zero, List.set_cons_succ] using h)
  generalize V1.setCell ⟨w.heap.size + 2, 4, none⟩ (.int .i64 (x.n + 1)) = V2 at *
  refine hK.out _ _ ⟨_, HQ3.out⟩ (fun _ => ?_)
  clear hK K HQ2 c4 f4
  try simp only [Act.put, List.setIfInBounds_toArray, List.set_cons_zero, List.set_cons_succ, List.getElem_toArray, List.getElem_cons_zero, List.getElem_cons_succ]
  refine wpAnyH_take (i := 11) (v := ?_) rfl (by kernel_rfl) (by kernel_rfl) (by kernel_rfl) (fun _ _ _ h => h) (Or.inl ⟨by rfl, ?_⟩) (by assumption) ?_
  rotate_left
  · intro X hSw
    go_simp
    try with_reducible rfl
  rotate_left
  try simp only [Act.put, List.setIfInBounds_toArray, List.set_cons_zero, List.set_cons_succ, List.getElem_toArray, List.getElem_cons_zero, List.getElem_cons_succ]
  refine wpAnyH_ready (rs := [12]) (by kernel_rfl) (by simp) ?_
  refine (AllReadyH.cons rfl (fun K hK => ?_) AllReadyH.nil)
  rw [if_pos (by rfl)]
  have c5 : V2.cell? ⟨w.heap.size + 2, 5, none⟩ = some (.int .i64 0) := HQ3.out.2.2.1.cell 5
  have f5 : V2.frozen? ⟨w.heap.size + 2, 5, none⟩ = false := HQ3.out.2.2.1.free 5
  go_wp2_with fail
  have HQ4 : Hid (Say3 w #[.int .i64 x.me, .int .i64 x.epoch, .int .i64 x.seq, .slice XJ x.jobs.length Xj, .int .i64 x.phase, .int .i64 x.n, .int .i64 x.stamp, .slice XT x.told.length Xt, .slice XN x.now.length Xn] #[.int .i64 2, .int .i64 x.me, .int .i64 x.epoch, .int .i64 x.seq, .int .i64 (x.n + 1), .int .i64 x.stamp, .int .i64 0, .int .i64 0, .int .i64 0, .int .i64 0, .int .i64 0, .string ⟨#[]⟩, .string ⟨#[]⟩, .string ⟨#[]⟩] (V2.setCell ⟨w.heap.size + 2, 5, none⟩ (.int .i64 x.stamp))) := Lib.hid (by have h := (HQ3.out.set 5 (.int .i64 x.stamp)); simpa only [List.setIfInBounds_toArray, List.set_cons_zero, List.set_cons_succ] using h)
  generalize V2.setCell ⟨w.heap.size + 2, 5, none⟩ (.int .i64 x.stamp) = V3 at *
  refine hK.out _ _ ⟨_, HQ4.out⟩ (fun _ => ?_)
  clear hK K HQ3 c5 f5
  try simp only [Act.put, List.setIfInBounds_toArray, List.set_cons_zero, List.set_cons_succ, List.getElem_toArray, List.getElem_cons_zero, List.getElem_cons_succ]
  refine wpAnyH_take (i := 13) (v := ?_) rfl (by kernel_rfl) (by kernel_rfl) (by kernel_rfl) (fun _ _ _ h => h) (Or.inl ⟨by rfl, ?_⟩) (by assumption) ?_
  rotate_left
  · intro X hSw
    go_simp
    try with_reducible rfl
  rotate_left
  try simp only [Act.put, List.setIfInBounds_toArray, List.set_cons_zero, List.set_cons_succ, List.getElem_toArray, List.getElem_cons_zero, List.getElem_cons_succ]
  refine wpAnyH_ready (rs := [14]) (by kernel_rfl) (by simp) ?_
  refine (AllReadyH.cons rfl (fun K hK => ?_) AllReadyH.nil)
  rw [if_pos (by rfl)]
  have c6 : V3.cell? ⟨w.heap.size + 2, 6, none⟩ = some (.int .i64 0) := HQ4.out.2.2.1.cell 6
  have f6 : V3.frozen? ⟨w.heap.size + 2, 6, none⟩ = false := HQ4.out.2.2.1.free 6
  have c7 : V3.cell? ⟨w.heap.size + 2, 7, none⟩ = some (.int .i64 0) := HQ4.out.2.2.1.cell 7
  have f7 : V3.frozen? ⟨w.heap.size + 2, 7, none⟩ = false := HQ4.out.2.2.1.free 7
  have c8 : V3.cell? ⟨w.heap.size + 2, 8, none⟩ = some (.int .i64 0) := HQ4.out.2.2.1.cell 8
  have f8 : V3.frozen? ⟨w.heap.size + 2, 8, none⟩ = false := HQ4.out.2.2.1.free 8
  have c9 : V3.cell? ⟨w.heap.size + 2, 9, none⟩ = some (.int .i64 0) := HQ4.out.2.2.1.cell 9
  have f9 : V3.frozen? ⟨w.heap.size + 2, 9, none⟩ = false := HQ4.out.2.2.1.free 9
  have c10 : V3.cell? ⟨w.heap.size + 2, 10, none⟩ = some (.int .i64 0) := HQ4.out.2.2.1.cell 10
  have f10 : V3.frozen? ⟨w.heap.size + 2, 10, none⟩ = false := HQ4.out.2.2.1.free 10
  have c11 : V3.cell? ⟨w.heap.size + 2, 11, none⟩ = some (.string ⟨#[]⟩) := HQ4.out.2.2.1.cell 11
  have f11 : V3.frozen? ⟨w.heap.size + 2, 11, none⟩ = false := HQ4.out.2.2.1.free 11
  have c12 : V3.cell? ⟨w.heap.size + 2, 12, none⟩ = some (.string ⟨#[]⟩) := HQ4.out.2.2.1.cell 12
  have f12 : V3.frozen? ⟨w.heap.size + 2, 12, none⟩ = false := HQ4.out.2.2.1.free 12
  have c13 : V3.cell? ⟨w.heap.size + 2, 13, none⟩ = some (.string ⟨#[]⟩) := HQ4.out.2.2.1.cell 13
  have f13 : V3.frozen? ⟨w.heap.size + 2, 13, none⟩ = false := HQ4.out.2.2.1.free 13
  go_wp2_with fail
  have HQ5 : Hid (Say3 w #[.int .i64 x.me, .int .i64 x.epoch, .int .i64 x.seq, .slice XJ x.jobs.length Xj, .int .i64 x.phase, .int .i64 x.n, .int .i64 x.stamp, .slice XT x.told.length Xt, .slice XN x.now.length Xn] #[.int .i64 2, .int .i64 x.me, .int .i64 x.epoch, .int .i64 x.seq, .int .i64 (x.n + 1), .int .i64 x.stamp, .int .i64 u.kind, .int .i64 u.ino, .int .i64 u.dest, .int .i64 u.pos, .int .i64 u.many, .string ⟨u.name.toArray⟩, .string ⟨u.name2.toArray⟩, .string ⟨u.text.toArray⟩] ((((((((V3.setCell ⟨w.heap.size + 2, 6, none⟩ (.int .i64 u.kind)).setCell ⟨w.heap.size + 2, 7, none⟩ (.int .i64 u.ino)).setCell ⟨w.heap.size + 2, 8, none⟩ (.int .i64 u.dest)).setCell ⟨w.heap.size + 2, 9, none⟩ (.int .i64 u.pos)).setCell ⟨w.heap.size + 2, 10, none⟩ (.int .i64 u.many)).setCell ⟨w.heap.size + 2, 11, none⟩ (.string ⟨u.name.toArray⟩)).setCell ⟨w.heap.size + 2, 12, none⟩ (.string ⟨u.name2.toArray⟩)).setCell ⟨w.heap.size + 2, 13, none⟩ (.string ⟨u.text.toArray⟩))) := Lib.hid (by have h := ((((((((HQ4.out.set 6 (.int .i64 u.kind)).set 7 (.int .i64 u.ino)).set 8 (.int .i64 u.dest)).set 9 (.int .i64 u.pos)).set 10 (.int .i64 u.many)).set 11 (.string ⟨u.name.toArray⟩)).set 12 (.string ⟨u.name2.toArray⟩)).set 13 (.string ⟨u.text.toArray⟩)); simpa only [List.setIfInBounds_toArray, List.set_cons_zero, List.set_cons_succ] using h)
  generalize (((((((V3.setCell ⟨w.heap.size + 2, 6, none⟩ (.int .i64 u.kind)).setCell ⟨w.heap.size + 2, 7, none⟩ (.int .i64 u.ino)).setCell ⟨w.heap.size + 2, 8, none⟩ (.int .i64 u.dest)).setCell ⟨w.heap.size + 2, 9, none⟩ (.int .i64 u.pos)).setCell ⟨w.heap.size + 2, 10, none⟩ (.int .i64 u.many)).setCell ⟨w.heap.size + 2, 11, none⟩ (.string ⟨u.name.toArray⟩)).setCell ⟨w.heap.size + 2, 12, none⟩ (.string ⟨u.name2.toArray⟩)).setCell ⟨w.heap.size + 2, 13, none⟩ (.string ⟨u.text.toArray⟩) = V4 at *
  refine hK.out _ _ ⟨_, HQ5.out⟩ (fun _ => ?_)
  clear hK K HQ4 c6 f6 c7 f7 c8 f8 c9 f9 c10 f10 c11 f11 c12 f12 c13 f13
  try simp only [Act.put, List.setIfInBounds_toArray, List.set_cons_zero, List.set_cons_succ, List.getElem_toArray, List.getElem_cons_zero, List.getElem_cons_succ]
  refine wpAnyH_done (by kernel_rfl) ?_ _
  have c0 : V4.cell? ⟨w.heap.size + 2, 0, none⟩ = some (.int .i64 2) := HQ5.out.2.2.1.cell 0
  have c1 : V4.cell? ⟨w.heap.size + 2, 1, none⟩ = some (.int .i64 x.me) := HQ5.out.2.2.1.cell 1
  have c2 : V4.cell? ⟨w.heap.size + 2, 2, none⟩ = some (.int .i64 x.epoch) := HQ5.out.2.2.1.cell 2
  have c3 : V4.cell? ⟨w.heap.size + 2, 3, none⟩ = some (.int .i64 x.seq) := HQ5.out.2.2.1.cell 3
  have c4 : V4.cell? ⟨w.heap.size + 2, 4, none⟩ = some (.int .i64 (x.n + 1)) := HQ5.out.2.2.1.cell 4
  have c5 : V4.cell? ⟨w.heap.size + 2, 5, none⟩ = some (.int .i64 x.stamp) := HQ5.out.2.2.1.cell 5
  have c6 : V4.cell? ⟨w.heap.size + 2, 6, none⟩ = some (.int .i64 u.kind) := HQ5.out.2.2.1.cell 6
  have c7 : V4.cell? ⟨w.heap.size + 2, 7, none⟩ = some (.int .i64 u.ino) := HQ5.out.2.2.1.cell 7
  have c8 : V4.cell? ⟨w.heap.size + 2, 8, none⟩ = some (.int .i64 u.dest) := HQ5.out.2.2.1.cell 8
  have c9 : V4.cell? ⟨w.heap.size + 2, 9, none⟩ = some (.int .i64 u.pos) := HQ5.out.2.2.1.cell 9
  have c10 : V4.cell? ⟨w.heap.size + 2, 10, none⟩ = some (.int .i64 u.many) := HQ5.out.2.2.1.cell 10
  have c11 : V4.cell? ⟨w.heap.size + 2, 11, none⟩ = some (.string ⟨u.name.toArray⟩) := HQ5.out.2.2.1.cell 11
  have c12 : V4.cell? ⟨w.heap.size + 2, 12, none⟩ = some (.string ⟨u.name2.toArray⟩) := HQ5.out.2.2.1.cell 12
  have c13 : V4.cell? ⟨w.heap.size + 2, 13, none⟩ = some (.string ⟨u.text.toArray⟩) := HQ5.out.2.2.1.cell 13
  have z0 : V4.cell? ⟨w.heap.size + 1, 0, none⟩ = some (.int .i64 0) := HQ5.out.2.1.cell 0
  have zf0 : V4.frozen? ⟨w.heap.size + 1, 0, none⟩ = false := HQ5.out.2.1.free 0
  have z1 : V4.cell? ⟨w.heap.size + 1, 1, none⟩ = some (.int .i64 0) := HQ5.out.2.1.cell 1
  have zf1 : V4.frozen? ⟨w.heap.size + 1, 1, none⟩ = false := HQ5.out.2.1.free 1
  have z2 : V4.cell? ⟨w.heap.size + 1, 2, none⟩ = some (.int .i64 0) := HQ5.out.2.1.cell 2
  have zf2 : V4.frozen? ⟨w.heap.size + 1, 2, none⟩ = false := HQ5.out.2.1.free 2
  have z3 : V4.cell? ⟨w.heap.size + 1, 3, none⟩ = some (.int .i64 0) := HQ5.out.2.1.cell 3
  have zf3 : V4.frozen? ⟨w.heap.size + 1, 3, none⟩ = false := HQ5.out.2.1.free 3
  have z4 : V4.cell? ⟨w.heap.size + 1, 4, none⟩ = some (.int .i64 0) := HQ5.out.2.1.cell 4
  have zf4 : V4.frozen? ⟨w.heap.size + 1, 4, none⟩ = false := HQ5.out.2.1.free 4
  have z5 : V4.cell? ⟨w.heap.size + 1, 5, none⟩ = some (.int .i64 0) := HQ5.out.2.1.cell 5
  have zf5 : V4.frozen? ⟨w.heap.size + 1, 5, none⟩ = false := HQ5.out.2.1.free 5
  have z6 : V4.cell? ⟨w.heap.size + 1, 6, none⟩ = some (.int .i64 0) := HQ5.out.2.1.cell 6
  have zf6 : V4.frozen? ⟨w.heap.size + 1, 6, none⟩ = false := HQ5.out.2.1.free 6
  have z7 : V4.cell? ⟨w.heap.size + 1, 7, none⟩ = some (.int .i64 0) := HQ5.out.2.1.cell 7
  have zf7 : V4.frozen? ⟨w.heap.size + 1, 7, none⟩ = false := HQ5.out.2.1.free 7
  have z8 : V4.cell? ⟨w.heap.size + 1, 8, none⟩ = some (.int .i64 0) := HQ5.out.2.1.cell 8
  have zf8 : V4.frozen? ⟨w.heap.size + 1, 8, none⟩ = false := HQ5.out.2.1.free 8
  have z9 : V4.cell? ⟨w.heap.size + 1, 9, none⟩ = some (.int .i64 0) := HQ5.out.2.1.cell 9
  have zf9 : V4.frozen? ⟨w.heap.size + 1, 9, none⟩ = false := HQ5.out.2.1.free 9
  have z10 : V4.cell? ⟨w.heap.size + 1, 10, none⟩ = some (.int .i64 0) := HQ5.out.2.1.cell 10
  have zf10 : V4.frozen? ⟨w.heap.size + 1, 10, none⟩ = false := HQ5.out.2.1.free 10
  have z11 : V4.cell? ⟨w.heap.size + 1, 11, none⟩ = some (.string ⟨#[]⟩) := HQ5.out.2.1.cell 11
  have zf11 : V4.frozen? ⟨w.heap.size + 1, 11, none⟩ = false := HQ5.out.2.1.free 11
  have z12 : V4.cell? ⟨w.heap.size + 1, 12, none⟩ = some (.string ⟨#[]⟩) := HQ5.out.2.1.cell 12
  have zf12 : V4.frozen? ⟨w.heap.size + 1, 12, none⟩ = false := HQ5.out.2.1.free 12
  have z13 : V4.cell? ⟨w.heap.size + 1, 13, none⟩ = some (.string ⟨#[]⟩) := HQ5.out.2.1.cell 13
  have zf13 : V4.frozen? ⟨w.heap.size + 1, 13, none⟩ = false := HQ5.out.2.1.free 13
  go_wp2_with fail
  refine bodyPost_ret (v := .tuple #[.agg #[.int .i64 2, .int .i64 x.me, .int .i64 x.epoch, .int .i64 x.seq, .int .i64 (x.n + 1), .int .i64 x.stamp, .int .i64 u.kind, .int .i64 u.ino, .int .i64 u.dest, .int .i64 u.pos, .int .i64 u.many, .string ⟨u.name.toArray⟩, .string ⟨u.name2.toArray⟩, .string ⟨u.text.toArray⟩], .bool true]) (by simp [results, Try.results12, go_sem, z0, z1, z2, z3, z4, z5, z6, z7, z8, z9, z10, z11, z12, z13]) rfl ⟨by rw [HM.out]; rfl, ?_⟩
  repeat (refine Below.setCell ?_ (by simp <;> omega) _)
  exact HQ5.out.2.2.2
theorem right_phase {x : Cli} (h : RightP x) : x.phase = 0 ∨ x.phase = 1 ∨ x.phase = 2 ∨ x.phase = 3 ∨ x.phase = 4 := by
  obtain ⟨h1, h2, h3, h4, _, h6, h7⟩ := h
  unfold RT at h6
  omega
theorem client_Say (x : Cli) (v : Value) (w : World) (hx : CliV w v x) (hr : RightP x) (hn : x.now.length ≤ 1000) : Calls Try.prog 12 #[v] w (RetMsg w (sayD x)) := by
  rcases right_phase hr with hp | hp | hp | hp | hp
  · exact client_Say0 x v w hx hp
  · exact client_Say1 x v w hx hp (by have := hr.2.2.2.1; omega)
  · exact client_Say2 x v w hx hp
  · exact client_Say3 x v w hx hp
  · exact client_Say4 x v w hx hp
theorem client_Asks (x : Cli) (v : Value) (w : World) (hx : CliV w v x) (hr : RightP x) : Calls Try.prog 14 #[v] w (RetMsg w (asksD x)) := by
  rcases right_phase hr with hp | hp | hp | hp | hp
  · exact client_Asks0 x v w hx hp
  · exact client_Asks1 x v w hx hp
  · exact client_Asks2 x v w hx hp
  · exact client_Asks3 x v w hx hp
  · exact client_Asks4 x v w hx hp
end Go.Proofs.Ytpdedjbkfcaebaa
