/- client.job, rightTold, rightCalls, Right: they answer as the document says; old memory is as it was. -/
import Derived.Test.YtpdedjbkfcaebaaCliFew
set_option linter.unusedVariables false
set_option linter.unusedSimpArgs false
namespace Go.Proofs.Ytpdedjbkfcaebaa
open Go.RowKit Copyhold
def jobOf (c : Cli) : List Cal := if 1 ≤ c.seq ∧ c.seq ≤ (c.jobs.length : Int) then c.jobs.getD (c.seq - 1).toNat [] else []
def RT (c : Cli) : Prop := (c.phase = 3 ∧ (c.told.length : Int) = c.seq ∧ (c.told.length : Int) ≤ (c.jobs.length : Int)) ∨ (c.phase = 4 ∧ (c.told.length : Int) = c.seq - 1 ∧ (c.told.length : Int) = (c.jobs.length : Int)) ∨ ((c.phase = 0 ∨ c.phase = 1 ∨ c.phase = 2) ∧ (c.told.length : Int) = c.seq - 1 ∧ (c.told.length : Int) < (c.jobs.length : Int))
instance (c : Cli) : Decidable (RT c) := by unfold RT; infer_instance
def RC (c : Cli) : Prop := (c.phase = 1 ∧ c.n < ((jobOf c).length : Int)) ∨ (c.phase = 2 ∧ c.n = ((jobOf c).length : Int)) ∨ (c.phase ≠ 1 ∧ c.phase ≠ 2 ∧ c.n = 0 ∧ c.stamp = 0)
instance (c : Cli) : Decidable (RC c) := by unfold RC; infer_instance
def Seqs (l : List Don) : Prop := ∀ i (h : i < l.length), l[i].seq = (i : Int) + 1
instance (l : List Don) : Decidable (Seqs l) := by unfold Seqs; infer_instance
def RightP (c : Cli) : Prop := 0 ≤ c.me ∧ 1 ≤ c.epoch ∧ 1 ≤ c.seq ∧ (c.now.length : Int) = c.n ∧ Seqs c.told ∧ RT c ∧ RC c
instance (c : Cli) : Decidable (RightP c) := by unfold RightP; infer_instance
def RetCals (w : World) (l : List Cal) (e : Ending) (w' : World) : Prop := ∃ A c, e = .returned (.slice A l.length c) ∧ CalsIn w' (.slice A l.length c) l ∧ Below w.heap.size w w'
theorem jobOf_none {c : Cli} (h : ¬ (1 ≤ c.seq ∧ c.seq ≤ (c.jobs.length : Int))) : jobOf c = [] := if_neg h
theorem jobOf_some {c : Cli} (i : Nat) (hi : i < c.jobs.length) (h : c.seq = (i : Int) + 1) : jobOf c = c.jobs[i] := by
  unfold jobOf
  rw [if_pos (by omega), show (c.seq - 1).toNat = i by omega]
  simp [List.getD, hi]
set_option maxRecDepth 100000 in
set_option maxHeartbeats 4000000 in
theorem client_job (x : Cli) (v : Value) (w : World) (hx : CliV w v x) :
    Calls Try.prog 48 #[v] w (RetCals w (jobOf x)) := by
  obtain ⟨jv, tv, nv, rfl, hx⟩ := hx
  obtain ⟨XJ, Xj, XT, Xt, XN, Xn, rfl, rfl, rfl⟩ := hx.shape
  obtain ⟨⟨⟨me1, me2⟩, ⟨ep1, ep2⟩, ⟨sq1, sq2⟩, ⟨ph1, ph2⟩, ⟨nn1, nn2⟩, ⟨st1, st2⟩⟩, ojx, otx, onx⟩ := id hx.ok
  obtain ⟨W0, hW⟩ : ∃ W, W = w.alloc (.cells #[.int .i64 x.me, .int .i64 x.epoch, .int .i64 x.seq, .slice XJ x.jobs.length Xj, .int .i64 x.phase, .int .i64 x.n, .int .i64 x.stamp, .slice XT x.told.length Xt, .slice XN x.now.length Xn] 26) := ⟨_, rfl⟩
  have hb : Below w.heap.size w W0 := by rw [hW]; exact (Below.refl _ _).alloc (Nat.le_refl _) _
  have hp0 : ∀ j v, (#[.int .i64 x.me, .int .i64 x.epoch, .int .i64 x.seq, .slice XJ x.jobs.length Xj, .int .i64 x.phase, .int .i64 x.n, .int .i64 x.stamp, .slice XT x.told.length Xt, .slice XN x.now.length Xn] : Array Value)[j]? = some v → W0.cell? ⟨w.heap.size, j, none⟩ = some v := fun j v h => by
    rw [hW]
    have := cell_new (w) #[.int .i64 x.me, .int .i64 x.epoch, .int .i64 x.seq, .slice XJ x.jobs.length Xj, .int .i64 x.phase, .int .i64 x.n, .int .i64 x.stamp, .slice XT x.told.length Xt, .slice XN x.now.length Xn] 26 j
    exact by rw [this]; exact h
  have px0 : W0.cell? ⟨w.heap.size, 0, none⟩ = some (.int .i64 x.me) := hp0 0 _ rfl
  have px1 : W0.cell? ⟨w.heap.size, 1, none⟩ = some (.int .i64 x.epoch) := hp0 1 _ rfl
  have px2 : W0.cell? ⟨w.heap.size, 2, none⟩ = some (.int .i64 x.seq) := hp0 2 _ rfl
  have px3 : W0.cell? ⟨w.heap.size, 3, none⟩ = some (.slice XJ x.jobs.length Xj) := hp0 3 _ rfl
  have px4 : W0.cell? ⟨w.heap.size, 4, none⟩ = some (.int .i64 x.phase) := hp0 4 _ rfl
  have px5 : W0.cell? ⟨w.heap.size, 5, none⟩ = some (.int .i64 x.n) := hp0 5 _ rfl
  have px6 : W0.cell? ⟨w.heap.size, 6, none⟩ = some (.int .i64 x.stamp) := hp0 6 _ rfl
  have px7 : W0.cell? ⟨w.heap.size, 7, none⟩ = some (.slice XT x.told.length Xt) := hp0 7 _ rfl
  have px8 : W0.cell? ⟨w.heap.size, 8, none⟩ = some (.slice XN x.now.length Xn) := hp0 8 _ rfl
  have HX := Lib.hid (hx.below hb)
  have HW := Lib.hid hW
  have HB := Lib.hid hb
  clear hx hb hW hp0
  unfold cliC
  by_cases g1 : x.seq < 1
  · have HJ := Lib.hid (jobOf_none (c := x) (by omega))
    skip
    go_enter Try.func48, Try.ntmps48
    go_wp2_with fail
    rw [← HW.out]
    go_ret
    exact ⟨none, 0, by rw [HJ.out]; rfl, by rw [HJ.out]; exact ⟨[], Sl.nil _ _, rfl, fun i cs a h => (by simp at h)⟩, HB.out⟩
  · have r1 : 1 ≤ x.seq := by omega
    by_cases g0 : (x.jobs.length : Int) < x.seq
    · have HJ := Lib.hid (jobOf_none (c := x) (by omega))
      skip
      go_enter Try.func48, Try.ntmps48
      go_wp2_with fail
      rw [← HW.out]
      go_ret
      exact ⟨none, 0, by rw [HJ.out]; rfl, by rw [HJ.out]; exact ⟨[], Sl.nil _ _, rfl, fun i cs a h => (by simp at h)⟩, HB.out⟩
    · have r0 : x.seq ≤ (x.jobs.length : Int) := by omega
      obtain ⟨i, hi⟩ : ∃ i : Nat, x.seq = (i : Int) + 1 := ⟨(x.seq - 1).toNat, by omega⟩
      have hil : i < x.jobs.length := by omega
      have HJ := Lib.hid (jobOf_some i hil hi)
      obtain ⟨b1, o1, A1, c1', rfl, hb1, k0, hs1, ok1⟩ := HX.out.jobs.at i hil
      have HS := Lib.hid hs1
      generalize x.jobs[i] = u at *
      have hi1 : x.seq - 1 = (i : Int) := by omega
      have hi2 : (i : Int) < (x.jobs.length : Int) := by omega
      have hi0 : (0 : Int) ≤ (i : Int) := by omega
      rw [HW.out] at k0
      clear hs1 hi
      skip
      go_enter Try.func48, Try.ntmps48
      go_wp2_with fail
      rw [← HW.out]
      go_ret
      exact ⟨A1, c1', by rw [HJ.out]; rfl, by rw [HJ.out]; exact HS.out, HB.out⟩
end Go.Proofs.Ytpdedjbkfcaebaa
