/- client.next, Say, Asks, and copyholdref18.Say, Asks: they answer as the document says; old memory is as it was. -/
import Derived.Test.YtpdedjbkfcaebaaCliRt
set_option linter.unusedVariables false
set_option linter.unusedSimpArgs false
namespace Go.Proofs.Ytpdedjbkfcaebaa
open Go.RowKit Copyhold
theorem below_drew {B : Nat} {a w : World} (h : Below B a w) : Below B a w.drew := below_dn h 1
def cal0 : Cal := ⟨0, 0, 0, 0, 0, [], [], []⟩
def msg0 : Msg := ⟨0, 0, 0, 0, 0, 0, cal0⟩
def msgC (m : Msg) : List Value := [.int .i64 m.kind, .int .i64 m.client, .int .i64 m.epoch, .int .i64 m.seq, .int .i64 m.n, .int .i64 m.stamp, .int .i64 m.c.kind, .int .i64 m.c.ino, .int .i64 m.c.dest, .int .i64 m.c.pos, .int .i64 m.c.many, txV m.c.name, txV m.c.name2, txV m.c.text]
def nextD (x : Cli) : Cal := if 0 ≤ x.n ∧ x.n < ((jobOf x).length : Int) then (jobOf x).getD x.n.toNat cal0 else cal0
def sayD (x : Cli) : Msg × Bool :=
  if x.phase = 0 then (⟨1, x.me, x.epoch, x.seq, 0, 0, cal0⟩, true)
  else if x.phase = 1 then (⟨2, x.me, x.epoch, x.seq, x.n + 1, x.stamp, nextD x⟩, true)
  else if x.phase = 2 then (⟨3, x.me, x.epoch, x.seq, x.n, x.stamp, cal0⟩, true)
  else if x.phase = 3 then (⟨6, x.me, x.epoch, x.seq, 0, 0, cal0⟩, true)
  else (msg0, false)
def asksD (x : Cli) : Msg × Bool := if x.phase = 0 ∨ x.phase = 1 ∨ x.phase = 2 then (⟨5, x.me, x.epoch, x.seq, 0, 0, cal0⟩, true) else (msg0, false)
def RetMsg (w : World) (m : Msg × Bool) (e : Ending) (w' : World) : Prop := e = .returned (.tuple #[.agg (msgC m.1).toArray, .bool m.2]) ∧ Below w.heap.size w w'
theorem nextD_some {x : Cli} (i : Nat) (hi : i < (jobOf x).length) (h : x.n = (i : Int)) : nextD x = (jobOf x)[i] := by
  unfold nextD
  rw [if_pos (by omega), h, Int.toNat_natCast]
  simp [List.getD, hi]
theorem nextD_none {x : Cli} (h : ¬ (0 ≤ x.n ∧ x.n < ((jobOf x).length : Int))) : nextD x = cal0 := if_neg h
set_option maxRecDepth 100000 in
set_option maxHeartbeats 4000000 in
theorem client_next (x : Cli) (v : Value) (w : World) (hx : CliV w v x) :
    Calls Try.prog 28 #[v] w (fun e w' => e = .returned (.agg (calC (nextD x)).toArray) ∧ Below w.heap.size w w') := by
  obtain ⟨jv, tv, nv, rfl, hx⟩ := hx
  obtain ⟨XJ, Xj, XT, Xt, XN, Xn, rfl, rfl, rfl⟩ := hx.shape
  obtain ⟨⟨⟨me1, me2⟩, ⟨ep1, ep2⟩, ⟨sq1, sq2⟩, ⟨ph1, ph2⟩, ⟨nn1, nn2⟩, ⟨st1, st2⟩⟩, ojx, otx, onx⟩ := id hx.ok
  obtain ⟨W0, hW⟩ : ∃ W, W = (w.alloc (.cells #[.int .i64 x.me, .int .i64 x.epoch, .int .i64 x.seq, .slice XJ x.jobs.length Xj, .int .i64 x.phase, .int .i64 x.n, .int .i64 x.stamp, .slice XT x.told.length Xt, .slice XN x.now.length Xn] 26)).alloc (.cells #[.int .i64 0, .int .i64 0, .int .i64 0, .int .i64 0, .int .i64 0, .string ⟨#[]⟩, .string ⟨#[]⟩, .string ⟨#[]⟩] 36) := ⟨_, rfl⟩
  have hb : Below w.heap.size w W0 := by rw [hW]; exact ((Below.refl _ _).alloc (Nat.le_refl _) _).alloc (by simp) _
  have hp0 : ∀ j v, (#[.int .i64 x.me, .int .i64 x.epoch, .int .i64 x.seq, .slice XJ x.jobs.length Xj, .int .i64 x.phase, .int .i64 x.n, .int .i64 x.stamp, .slice XT x.told.length Xt, .slice XN x.now.length Xn] : Array Value)[j]? = some v → W0.cell? ⟨w.heap.size, j, none⟩ = some v := fun j v h => by
    rw [hW]
    have := cell_new (w) #[.int .i64 x.me, .int .i64 x.epoch, .int .i64 x.seq, .slice XJ x.jobs.length Xj, .int .i64 x.phase, .int .i64 x.n, .int .i64 x.stamp, .slice XT x.told.length Xt, .slice XN x.now.length Xn] 26 j
    exact cell_alloc _ (by rw [this]; exact h)
  have hp1 : ∀ j v, (#[.int .i64 0, .int .i64 0, .int .i64 0, .int .i64 0, .int .i64 0, .string ⟨#[]⟩, .string ⟨#[]⟩, .string ⟨#[]⟩] : Array Value)[j]? = some v → W0.cell? ⟨w.heap.size + 1, j, none⟩ = some v := fun j v h => by
    rw [hW]
    have := cell_new ((w.alloc (.cells #[.int .i64 x.me, .int .i64 x.epoch, .int .i64 x.seq, .slice XJ x.jobs.length Xj, .int .i64 x.phase, .int .i64 x.n, .int .i64 x.stamp, .slice XT x.told.length Xt, .slice XN x.now.length Xn] 26))) #[.int .i64 0, .int .i64 0, .int .i64 0, .int .i64 0, .int .i64 0, .string ⟨#[]⟩, .string ⟨#[]⟩, .string ⟨#[]⟩] 36 j
    rw [show ((w.alloc (.cells #[.int .i64 x.me, .int .i64 x.epoch, .int .i64 x.seq, .slice XJ x.jobs.length Xj, .int .i64 x.phase, .int .i64 x.n, .int .i64 x.stamp, .slice XT x.told.length Xt, .slice XN x.now.length Xn] 26))).heap.size = w.heap.size + 1 from by simp] at this
    exact by rw [this]; exact h
  have px0 : W0.cell? ⟨w.heap.size, 0, none⟩ = some (.int .i64 x.me) := hp0 0 _ rfl
  have px1 : W0.cell? ⟨w.heap.size, 1, none⟩ = some (.int .i64 x.epoch) := hp0 1 _ rfl
  have px2 : W0.cell? ⟨w.heap.size, 2, none⟩ = some (.int .i64 x.seq) := hp0 2 _ rfl
  have px3 : W0.cell? ⟨w.heap.size, 3, none⟩ = some (.slice XJ x.jobs.length Xj) := hp0 3 _ rfl
  have px4 : W0.cell? ⟨w.heap.size, 4, none⟩ = some (.int .i64 x.phase) := hp0 4 _ rfl
  have px5 : W0.cell? ⟨w.heap.size, 5, none⟩ = some (.int .i64 x.n) := hp0 5 _ rfl
  have px6 : W0.cell? ⟨w.heap.size, 6, none⟩ = some (.int .i64 x.stamp) := hp0 6 _ rfl
  have px7 : W0.cell? ⟨w.heap.size, 7, none⟩ = some (.slice XT x.told.length Xt) := hp0 7 _ rfl
  have px8 : W0.cell? ⟨w.heap.size, 8, none⟩ = some (.slice XN x.now.length Xn) := hp0 8 _ rfl
  have pa0 : W0.cell? ⟨w.heap.size + 1, 0, none⟩ = some (.int .i64 0) := hp1 0 _ rfl
  have pa1 : W0.cell? ⟨w.heap.size + 1, 1, none⟩ = some (.int .i64 0) := hp1 1 _ rfl
  have pa2 : W0.cell? ⟨w.heap.size + 1, 2, none⟩ = some (.int .i64 0) := hp1 2 _ rfl
  have pa3 : W0.cell? ⟨w.heap.size + 1, 3, none⟩ = some (.int .i64 0) := hp1 3 _ rfl
  have pa4 : W0.cell? ⟨w.heap.size + 1, 4, none⟩ = some (.int .i64 0) := hp1 4 _ rfl
  have pa5 : W0.cell? ⟨w.heap.size + 1, 5, none⟩ = some (.string ⟨#[]⟩) := hp1 5 _ rfl
  have pa6 : W0.cell? ⟨w.heap.size + 1, 6, none⟩ = some (.string ⟨#[]⟩) := hp1 6 _ rfl
  have pa7 : W0.cell? ⟨w.heap.size + 1, 7, none⟩ = some (.string ⟨#[]⟩) := hp1 7 _ rfl
  have HX := Lib.hid (hx.below hb)
  have HW := Lib.hid hW
  have HB := Lib.hid hb
  clear hx hb hW hp0 hp1
  have hT0 : TBox W0 (w.heap.size) 26 #[.int .i64 x.me, .int .i64 x.epoch, .int .i64 x.seq, .slice XJ x.jobs.length Xj, .int .i64 x.phase, .int .i64 x.n, .int .i64 x.stamp, .slice XT x.told.length Xt, .slice XN x.now.length Xn] := by
    rw [HW.out]
    have h := TBox.new (w) 26 #[.int .i64 x.me, .int .i64 x.epoch, .int .i64 x.seq, .slice XJ x.jobs.length Xj, .int .i64 x.phase, .int .i64 x.n, .int .i64 x.stamp, .slice XT x.told.length Xt, .slice XN x.now.length Xn]
    exact (h).below ((Below.refl _ _).alloc (Nat.le_refl _) _)
  have hT1 : TBox W0 (w.heap.size + 1) 36 #[.int .i64 0, .int .i64 0, .int .i64 0, .int .i64 0, .int .i64 0, .string ⟨#[]⟩, .string ⟨#[]⟩, .string ⟨#[]⟩] := by
    rw [HW.out]
    have h := TBox.new (w.alloc (.cells #[.int .i64 x.me, .int .i64 x.epoch, .int .i64 x.seq, .slice XJ x.jobs.length Xj, .int .i64 x.phase, .int .i64 x.n, .int .i64 x.stamp, .slice XT x.told.length Xt, .slice XN x.now.length Xn] 26)) 36 #[.int .i64 0, .int .i64 0, .int .i64 0, .int .i64 0, .int .i64 0, .string ⟨#[]⟩, .string ⟨#[]⟩, .string ⟨#[]⟩]
    rw [show (w.alloc (.cells #[.int .i64 x.me, .int .i64 x.epoch, .int .i64 x.seq, .slice XJ x.jobs.length Xj, .int .i64 x.phase, .int .i64 x.n, .int .i64 x.stamp, .slice XT x.told.length Xt, .slice XN x.now.length Xn] 26)).heap.size = w.heap.size + 1 from by simp] at h
    exact h
  unfold cliC at *
  by_cases g1 : x.n < 0
  · have HN := Lib.hid (nextD_none (x := x) (by omega))
    go_enter Try.func28, Try.ntmps28
    go_wp2_with fail
    rw [← HW.out]
    refine (client_job x _ _ ⟨_, _, _, rfl, HX.out⟩).mono ?_
    rintro e w1 ⟨A1, c1, rfl, hj, hb1⟩
    have t1 := hT1.below hb1
    have t0 := hT0.below hb1
    have HB1 := Lib.hid (below_trans HB.out hb1 HB.out.size)
    have k5 : w1.cell? ⟨w.heap.size, 5, none⟩ = some (.int .i64 x.n) := t0.cell 5
    have z0 : w1.cell? ⟨w.heap.size + 1, 0, none⟩ = some (.int .i64 0) := t1.cell 0
    have zf0 : w1.frozen? ⟨w.heap.size + 1, 0, none⟩ = false := t1.free 0
    have z1 : w1.cell? ⟨w.heap.size + 1, 1, none⟩ = some (.int .i64 0) := t1.cell 1
    have zf1 : w1.frozen? ⟨w.heap.size + 1, 1, none⟩ = false := t1.free 1
    have z2 : w1.cell? ⟨w.heap.size + 1, 2, none⟩ = some (.int .i64 0) := t1.cell 2
    have zf2 : w1.frozen? ⟨w.heap.size + 1, 2, none⟩ = false := t1.free 2
    have z3 : w1.cell? ⟨w.heap.size + 1, 3, none⟩ = some (.int .i64 0) := t1.cell 3
    have zf3 : w1.frozen? ⟨w.heap.size + 1, 3, none⟩ = false := t1.free 3
    have z4 : w1.cell? ⟨w.heap.size + 1, 4, none⟩ = some (.int .i64 0) := t1.cell 4
    have zf4 : w1.frozen? ⟨w.heap.size + 1, 4, none⟩ = false := t1.free 4
    have z5 : w1.cell? ⟨w.heap.size + 1, 5, none⟩ = some (.string ⟨#[]⟩) := t1.cell 5
    have zf5 : w1.frozen? ⟨w.heap.size + 1, 5, none⟩ = false := t1.free 5
    have z6 : w1.cell? ⟨w.heap.size + 1, 6, none⟩ = some (.string ⟨#[]⟩) := t1.cell 6
    have zf6 : w1.frozen? ⟨w.heap.size + 1, 6, none⟩ = false := t1.free 6
    have z7 : w1.cell? ⟨w.heap.size + 1, 7, none⟩ = some (.string ⟨#[]⟩) := t1.cell 7
    have zf7 : w1.frozen? ⟨w.heap.size + 1, 7, none⟩ = false := t1.free 7
    clear hb1 t0 t1
    clear hj
    generalize jobOf x = jl at *
    go_wp2_with fail
    refine bodyPost_ret (v := .agg #[.int .i64 0, .int .i64 0, .int .i64 0, .int .i64 0, .int .i64 0, .string ⟨#[]⟩, .string ⟨#[]⟩, .string ⟨#[]⟩]) (by simp [results, Try.results28, go_sem, z0, z1, z2, z3, z4, z5, z6, z7]) rfl ⟨by rw [HN.out]; rfl, ?_⟩
    repeat (refine Below.setCell ?_ (by simp <;> omega) _)
    exact HB1.out
  · have r1 : 0 ≤ x.n := by omega
    by_cases g0 : x.n < ((jobOf x).length : Int)
    · obtain ⟨i, hi⟩ : ∃ i : Nat, x.n = (i : Int) := ⟨x.n.toNat, by omega⟩
      have hil : i < (jobOf x).length := by omega
      have HN := Lib.hid (nextD_some i hil hi)
      have HX5 := Lib.hid hi
      clear hi
      go_enter Try.func28, Try.ntmps28
      go_wp2_with fail
      rw [← HW.out]
      refine (client_job x _ _ ⟨_, _, _, rfl, HX.out⟩).mono ?_
      rintro e w1 ⟨A1, c1, rfl, hj, hb1⟩
      have t1 := hT1.below hb1
      have t0 := hT0.below hb1
      have HB1 := Lib.hid (below_trans HB.out hb1 HB.out.size)
      have k5 : w1.cell? ⟨w.heap.size, 5, none⟩ = some (.int .i64 x.n) := t0.cell 5
      have z0 : w1.cell? ⟨w.heap.size + 1, 0, none⟩ = some (.int .i64 0) := t1.cell 0
      have zf0 : w1.frozen? ⟨w.heap.size + 1, 0, none⟩ = false := t1.free 0
      have z1 : w1.cell? ⟨w.heap.size + 1, 1, none⟩ = some (.int .i64 0) := t1.cell 1
      have zf1 : w1.frozen? ⟨w.heap.size + 1, 1, none⟩ = false := t1.free 1
      have z2 : w1.cell? ⟨w.heap.size + 1, 2, none⟩ = some (.int .i64 0) := t1.cell 2
      have zf2 : w1.frozen? ⟨w.heap.size + 1, 2, none⟩ = false := t1.free 2
      have z3 : w1.cell? ⟨w.heap.size + 1, 3, none⟩ = some (.int .i64 0) := t1.cell 3
      have zf3 : w1.frozen? ⟨w.heap.size + 1, 3, none⟩ = false := t1.free 3
      have z4 : w1.cell? ⟨w.heap.size + 1, 4, none⟩ = some (.int .i64 0) := t1.cell 4
      have zf4 : w1.frozen? ⟨w.heap.size + 1, 4, none⟩ = false := t1.free 4
      have z5 : w1.cell? ⟨w.heap.size + 1, 5, none⟩ = some (.string ⟨#[]⟩) := t1.cell 5
      have zf5 : w1.frozen? ⟨w.heap.size + 1, 5, none⟩ = false := t1.free 5
      have z6 : w1.cell? ⟨w.heap.size + 1, 6, none⟩ = some (.string ⟨#[]⟩) := t1.cell 6
      have zf6 : w1.frozen? ⟨w.heap.size + 1, 6, none⟩ = false := t1.free 6
      have z7 : w1.cell? ⟨w.heap.size + 1, 7, none⟩ = some (.string ⟨#[]⟩) := t1.cell 7
      have zf7 : w1.frozen? ⟨w.heap.size + 1, 7, none⟩ = false := t1.free 7
      clear hb1 t0 t1
      obtain ⟨b1, o1, rfl, hb1, q1, ok1⟩ := hj.at i hil
      rw [HX5.out] at k5
      generalize (jobOf x)[i] = u at *
      have m0 : w1.cell? ⟨b1, o1 + i * 8, none⟩ = some (.int .i64 u.kind) := q1 0 _ rfl
      have m1 : w1.cell? ⟨b1, o1 + i * 8 + 1, none⟩ = some (.int .i64 u.ino) := q1 1 _ rfl
      have m2 : w1.cell? ⟨b1, o1 + i * 8 + 2, none⟩ = some (.int .i64 u.dest) := q1 2 _ rfl
      have m3 : w1.cell? ⟨b1, o1 + i * 8 + 3, none⟩ = some (.int .i64 u.pos) := q1 3 _ rfl
      have m4 : w1.cell? ⟨b1, o1 + i * 8 + 4, none⟩ = some (.int .i64 u.many) := q1 4 _ rfl
      have m5 : w1.cell? ⟨b1, o1 + i * 8 + 5, none⟩ = some (.string ⟨u.name.toArray⟩) := q1 5 _ rfl
      have m6 : w1.cell? ⟨b1, o1 + i * 8 + 6, none⟩ = some (.string ⟨u.name2.toArray⟩) := q1 6 _ rfl
      have m7 : w1.cell? ⟨b1, o1 + i * 8 + 7, none⟩ = some (.string ⟨u.text.toArray⟩) := q1 7 _ rfl
      have hi2 : (i : Int) < ((jobOf x).length : Int) := by omega
      have hi0 : (0 : Int) ≤ (i : Int) := by omega
      clear hj q1 ok1
      generalize (jobOf x).length = jl at *
      go_wp2_with fail
      refine bodyPost_ret (v := .agg #[.int .i64 u.kind, .int .i64 u.ino, .int .i64 u.dest, .int .i64 u.pos, .int .i64 u.many, .string ⟨u.name.toArray⟩, .string ⟨u.name2.toArray⟩, .string ⟨u.text.toArray⟩]) (by simp [results, Try.results28, go_sem, z0, z1, z2, z3, z4, z5, z6, z7]) rfl ⟨by rw [HN.out]; rfl, ?_⟩
      repeat (refine Below.setCell ?_ (by simp <;> omega) _)
      exact HB1.out
    · have r0 : ((jobOf x).length : Int) ≤ x.n := by omega
      have HN := Lib.hid (nextD_none (x := x) (by omega))
      go_enter Try.func28, Try.ntmps28
      go_wp2_with fail
      rw [← HW.out]
      refine (client_job x _ _ ⟨_, _, _, rfl, HX.out⟩).mono ?_
      rintro e w1 ⟨A1, c1, rfl, hj, hb1⟩
      have t1 := hT1.below hb1
      have t0 := hT0.below hb1
      have HB1 := Lib.hid (below_trans HB.out hb1 HB.out.size)
      have k5 : w1.cell? ⟨w.heap.size, 5, none⟩ = some (.int .i64 x.n) := t0.cell 5
      have z0 : w1.cell? ⟨w.heap.size + 1, 0, none⟩ = some (.int .i64 0) := t1.cell 0
      have zf0 : w1.frozen? ⟨w.heap.size + 1, 0, none⟩ = false := t1.free 0
      have z1 : w1.cell? ⟨w.heap.size + 1, 1, none⟩ = some (.int .i64 0) := t1.cell 1
      have zf1 : w1.frozen? ⟨w.heap.size + 1, 1, none⟩ = false := t1.free 1
      have z2 : w1.cell? ⟨w.heap.size + 1, 2, none⟩ = some (.int .i64 0) := t1.cell 2
      have zf2 : w1.frozen? ⟨w.heap.size + 1, 2, none⟩ = false := t1.free 2
      have z3 : w1.cell? ⟨w.heap.size + 1, 3, none⟩ = some (.int .i64 0) := t1.cell 3
      have zf3 : w1.frozen? ⟨w.heap.size + 1, 3, none⟩ = false := t1.free 3
      have z4 : w1.cell? ⟨w.heap.size + 1, 4, none⟩ = some (.int .i64 0) := t1.cell 4
      have zf4 : w1.frozen? ⟨w.heap.size + 1, 4, none⟩ = false := t1.free 4
      have z5 : w1.cell? ⟨w.heap.size + 1, 5, none⟩ = some (.string ⟨#[]⟩) := t1.cell 5
      have zf5 : w1.frozen? ⟨w.heap.size + 1, 5, none⟩ = false := t1.free 5
      have z6 : w1.cell? ⟨w.heap.size + 1, 6, none⟩ = some (.string ⟨#[]⟩) := t1.cell 6
      have zf6 : w1.frozen? ⟨w.heap.size + 1, 6, none⟩ = false := t1.free 6
      have z7 : w1.cell? ⟨w.heap.size + 1, 7, none⟩ = some (.string ⟨#[]⟩) := t1.cell 7
      have zf7 : w1.frozen? ⟨w.heap.size + 1, 7, none⟩ = false := t1.free 7
      clear hb1 t0 t1
      clear hj
      generalize jobOf x = jl at *
      go_wp2_with fail
      refine bodyPost_ret (v := .agg #[.int .i64 0, .int .i64 0, .int .i64 0, .int .i64 0, .int .i64 0, .string ⟨#[]⟩, .string ⟨#[]⟩, .string ⟨#[]⟩]) (by simp [results, Try.results28, go_sem, z0, z1, z2, z3, z4, z5, z6, z7]) rfl ⟨by rw [HN.out]; rfl, ?_⟩
      repeat (refine Below.setCell ?_ (by simp <;> omega) _)
      exact HB1.out
end Go.Proofs.Ytpdedjbkfcaebaa
