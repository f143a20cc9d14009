/- client.Say, Asks, copyholdref18.Say, Asks, phase by phase (but the calls' own): they answer as the document says; old memory is as it was. -/
import Derived.Test.YtpdedjbkfcaebaaCliSay
set_option linter.unusedVariables false
set_option linter.unusedSimpArgs false
namespace Go.Proofs.Ytpdedjbkfcaebaa
open Go.RowKit Copyhold
set_option maxRecDepth 100000 in
set_option maxHeartbeats 4000000 in
theorem client_Say0 (x : Cli) (v : Value) (w : World) (hx : CliV w v x) (hp : x.phase = 0) :
    Calls Try.prog 12 #[v] w (RetMsg w (sayD x)) := by
  obtain ⟨jv, tv, nv, rfl, hx⟩ := hx
  obtain ⟨XJ, Xj, XT, Xt, XN, Xn, rfl, rfl, rfl⟩ := hx.shape
  obtain ⟨⟨⟨me1, me2⟩, ⟨ep1, ep2⟩, ⟨sq1, sq2⟩, ⟨ph1, ph2⟩, ⟨nn1, nn2⟩, ⟨st1, st2⟩⟩, ojx, otx, onx⟩ := id hx.ok
  have HM := Lib.hid (show sayD x = (⟨1, x.me, x.epoch, x.seq, 0, 0, cal0⟩, true) from by simp [sayD, hp, msg0])
  have f0 : (x.phase == 0) = true := by rw [beq_iff_eq]; omega
  have f1 : (x.phase == 1) = false := by rw [beq_eq_false_iff_ne]; omega
  have f2 : (x.phase == 2) = false := by rw [beq_eq_false_iff_ne]; omega
  have f3 : (x.phase == 3) = false := by rw [beq_eq_false_iff_ne]; omega
  have f4 : (x.phase == 4) = false := by rw [beq_eq_false_iff_ne]; omega
  clear hp
  unfold cliC
  go_enter Try.func12, Try.ntmps12
  go_wp2_with fail
  refine bodyPost_ret (v := .tuple #[.agg #[.int .i64 1, .int .i64 x.me, .int .i64 x.epoch, .int .i64 x.seq, .int .i64 0, .int .i64 0, .int .i64 0, .int .i64 0, .int .i64 0, .int .i64 0, .int .i64 0, .string ⟨#[]⟩, .string ⟨#[]⟩, .string ⟨#[]⟩], .bool true]) (by simp [results, Try.results12, go_sem]) rfl ⟨by rw [HM.out]; rfl, ?_⟩
  repeat (first | (refine Below.setCell ?_ (by simp <;> omega) _) | (refine Below.alloc ?_ (by simp <;> omega) _) | (refine below_drew ?_))
  exact Below.refl _ _
set_option maxRecDepth 100000 in
set_option maxHeartbeats 4000000 in
theorem client_Say3 (x : Cli) (v : Value) (w : World) (hx : CliV w v x) (hp : x.phase = 3) :
    Calls Try.prog 12 #[v] w (RetMsg w (sayD x)) := by
  obtain ⟨jv, tv, nv, rfl, hx⟩ := hx
  obtain ⟨XJ, Xj, XT, Xt, XN, Xn, rfl, rfl, rfl⟩ := hx.shape
  obtain ⟨⟨⟨me1, me2⟩, ⟨ep1, ep2⟩, ⟨sq1, sq2⟩, ⟨ph1, ph2⟩, ⟨nn1, nn2⟩, ⟨st1, st2⟩⟩, ojx, otx, onx⟩ := id hx.ok
  have HM := Lib.hid (show sayD x = (⟨6, x.me, x.epoch, x.seq, 0, 0, cal0⟩, true) from by simp [sayD, hp, msg0])
  have f0 : (x.phase == 0) = false := by rw [beq_eq_false_iff_ne]; omega
  have f1 : (x.phase == 1) = false := by rw [beq_eq_false_iff_ne]; omega
  have f2 : (x.phase == 2) = false := by rw [beq_eq_false_iff_ne]; omega
  have f3 : (x.phase == 3) = true := by rw [beq_iff_eq]; omega
  have f4 : (x.phase == 4) = false := by rw [beq_eq_false_iff_ne]; omega
  clear hp
  unfold cliC
  go_enter Try.func12, Try.ntmps12
  go_wp2_with fail
  refine bodyPost_ret (v := .tuple #[.agg #[.int .i64 6, .int .i64 x.me, .int .i64 x.epoch, .int .i64 x.seq, .int .i64 0, .int .i64 0, .int .i64 0, .int .i64 0, .int .i64 0, .int .i64 0, .int .i64 0, .string ⟨#[]⟩, .string ⟨#[]⟩, .string ⟨#[]⟩], .bool true]) (by simp [results, Try.results12, go_sem]) rfl ⟨by rw [HM.out]; rfl, ?_⟩
  repeat (first | (refine Below.setCell ?_ (by simp <;> omega) _) | (refine Below.alloc ?_ (by simp <;> omega) _) | (refine below_drew ?_))
  exact Below.refl _ _
set_option maxRecDepth 100000 in
set_option maxHeartbeats 4000000 in
theorem client_Say4 (x : Cli) (v : Value) (w : World) (hx : CliV w v x) (hp : x.phase = 4) :
    Calls Try.prog 12 #[v] w (RetMsg w (sayD x)) := by
  obtain ⟨jv, tv, nv, rfl, hx⟩ := hx
  obtain ⟨XJ, Xj, XT, Xt, XN, Xn, rfl, rfl, rfl⟩ := hx.shape
  obtain ⟨⟨⟨me1, me2⟩, ⟨ep1, ep2⟩, ⟨sq1, sq2⟩, ⟨ph1, ph2⟩, ⟨nn1, nn2⟩, ⟨st1, st2⟩⟩, ojx, otx, onx⟩ := id hx.ok
  have HM := Lib.hid (show sayD x = (⟨0, 0, 0, 0, 0, 0, cal0⟩, false) from by simp [sayD, hp, msg0])
  have f0 : (x.phase == 0) = false := by rw [beq_eq_false_iff_ne]; omega
  have f1 : (x.phase == 1) = false := by rw [beq_eq_false_iff_ne]; omega
  have f2 : (x.phase == 2) = false := by rw [beq_eq_false_iff_ne]; omega
  have f3 : (x.phase == 3) = false := by rw [beq_eq_false_iff_ne]; omega
  have f4 : (x.phase == 4) = true := by rw [beq_iff_eq]; omega
  clear hp
  unfold cliC
  go_enter Try.func12, Try.ntmps12
  go_wp2_with fail
  refine bodyPost_ret (v := .tuple #[.agg #[.int .i64 0, .int .i64 0, .int .i64 0, .int .i64 0, .int .i64 0, .int .i64 0, .int .i64 0, .int .i64 0, .int .i64 0, .int .i64 0, .int .i64 0, .string ⟨#[]⟩, .string ⟨#[]⟩, .string ⟨#[]⟩], .bool false]) (by simp [results, Try.results12, go_sem]) rfl ⟨by rw [HM.out]; rfl, ?_⟩
  repeat (first | (refine Below.setCell ?_ (by simp <;> omega) _) | (refine Below.alloc ?_ (by simp <;> omega) _) | (refine below_drew ?_))
  exact Below.refl _ _
set_option maxRecDepth 100000 in
set_option maxHeartbeats 4000000 in
theorem client_Say2 (x : Cli) (v : Value) (w : World) (hx : CliV w v x) (hp : x.phase = 2) :
    Calls Try.prog 12 #[v] w (RetMsg w (sayD x)) := by
  obtain ⟨jv, tv, nv, rfl, hx⟩ := hx
  obtain ⟨XJ, Xj, XT, Xt, XN, Xn, rfl, rfl, rfl⟩ := hx.shape
  obtain ⟨⟨⟨me1, me2⟩, ⟨ep1, ep2⟩, ⟨sq1, sq2⟩, ⟨ph1, ph2⟩, ⟨nn1, nn2⟩, ⟨st1, st2⟩⟩, ojx, otx, onx⟩ := id hx.ok
  have HM := Lib.hid (show sayD x = (⟨3, x.me, x.epoch, x.seq, x.n, x.stamp, cal0⟩, true) from by simp [sayD, hp, msg0])
  have f0 : (x.phase == 0) = false := by rw [beq_eq_false_iff_ne]; omega
  have f1 : (x.phase == 1) = false := by rw [beq_eq_false_iff_ne]; omega
  have f2 : (x.phase == 2) = true := by rw [beq_iff_eq]; omega
  have f3 : (x.phase == 3) = false := by rw [beq_eq_false_iff_ne]; omega
  have f4 : (x.phase == 4) = false := by rw [beq_eq_false_iff_ne]; omega
  clear hp
  unfold cliC
  go_enter Try.func12, Try.ntmps12
  go_wp2_with fail
  go_region
  go_wp2_with fail
  refine bodyPost_ret (v := .tuple #[.agg #[.int .i64 3, .int .i64 x.me, .int .i64 x.epoch, .int .i64 x.seq, .int .i64 x.n, .int .i64 x.stamp, .int .i64 0, .int .i64 0, .int .i64 0, .int .i64 0, .int .i64 0, .string ⟨#[]⟩, .string ⟨#[]⟩, .string ⟨#[]⟩], .bool true]) (by simp [results, Try.results12, go_sem]) rfl ⟨by rw [HM.out]; rfl, ?_⟩
  repeat (first | (refine Below.setCell ?_ (by simp <;> omega) _) | (refine Below.alloc ?_ (by simp <;> omega) _) | (refine below_drew ?_))
  exact Below.refl _ _
set_option maxRecDepth 100000 in
set_option maxHeartbeats 4000000 in
theorem client_Asks0 (x : Cli) (v : Value) (w : World) (hx : CliV w v x) (hp : x.phase = 0) :
    Calls Try.prog 14 #[v] w (RetMsg w (asksD x)) := by
  obtain ⟨jv, tv, nv, rfl, hx⟩ := hx
  obtain ⟨XJ, Xj, XT, Xt, XN, Xn, rfl, rfl, rfl⟩ := hx.shape
  obtain ⟨⟨⟨me1, me2⟩, ⟨ep1, ep2⟩, ⟨sq1, sq2⟩, ⟨ph1, ph2⟩, ⟨nn1, nn2⟩, ⟨st1, st2⟩⟩, ojx, otx, onx⟩ := id hx.ok
  have HM := Lib.hid (show asksD x = (⟨5, x.me, x.epoch, x.seq, 0, 0, cal0⟩, true) from by simp [asksD, hp, msg0])
  have f0 : (x.phase == 0) = true := by rw [beq_iff_eq]; omega
  have f1 : (x.phase == 1) = false := by rw [beq_eq_false_iff_ne]; omega
  have f2 : (x.phase == 2) = false := by rw [beq_eq_false_iff_ne]; omega
  have f3 : (x.phase == 3) = false := by rw [beq_eq_false_iff_ne]; omega
  have f4 : (x.phase == 4) = false := by rw [beq_eq_false_iff_ne]; omega
  have g2 : x.phase ≤ 2 := by omega
  clear hp
  unfold cliC
  go_enter Try.func14, Try.ntmps14
  go_wp2_with fail
  refine bodyPost_ret (v := .tuple #[.agg #[.int .i64 5, .int .i64 x.me, .int .i64 x.epoch, .int .i64 x.seq, .int .i64 0, .int .i64 0, .int .i64 0, .int .i64 0, .int .i64 0, .int .i64 0, .int .i64 0, .string ⟨#[]⟩, .string ⟨#[]⟩, .string ⟨#[]⟩], .bool true]) (by simp [results, Try.results14, go_sem]) rfl ⟨by rw [HM.out]; rfl, ?_⟩
  repeat (first | (refine Below.setCell ?_ (by simp <;> omega) _) | (refine Below.alloc ?_ (by simp <;> omega) _) | (refine below_drew ?_))
  exact Below.refl _ _
set_option maxRecDepth 100000 in
set_option maxHeartbeats 4000000 in
theorem client_Asks1 (x : Cli) (v : Value) (w : World) (hx : CliV w v x) (hp : x.phase = 1) :
    Calls Try.prog 14 #[v] w (RetMsg w (asksD x)) := by
  obtain ⟨jv, tv, nv, rfl, hx⟩ := hx
  obtain ⟨XJ, Xj, XT, Xt, XN, Xn, rfl, rfl, rfl⟩ := hx.shape
  obtain ⟨⟨⟨me1, me2⟩, ⟨ep1, ep2⟩, ⟨sq1, sq2⟩, ⟨ph1, ph2⟩, ⟨nn1, nn2⟩, ⟨st1, st2⟩⟩, ojx, otx, onx⟩ := id hx.ok
  have HM := Lib.hid (show asksD x = (⟨5, x.me, x.epoch, x.seq, 0, 0, cal0⟩, true) from by simp [asksD, hp, msg0])
  have f0 : (x.phase == 0) = false := by rw [beq_eq_false_iff_ne]; omega
  have f1 : (x.phase == 1) = true := by rw [beq_iff_eq]; omega
  have f2 : (x.phase == 2) = false := by rw [beq_eq_false_iff_ne]; omega
  have f3 : (x.phase == 3) = false := by rw [beq_eq_false_iff_ne]; omega
  have f4 : (x.phase == 4) = false := by rw [beq_eq_false_iff_ne]; omega
  have g2 : x.phase ≤ 2 := by omega
  clear hp
  unfold cliC
  go_enter Try.func14, Try.ntmps14
  go_wp2_with fail
  refine bodyPost_ret (v := .tuple #[.agg #[.int .i64 5, .int .i64 x.me, .int .i64 x.epoch, .int .i64 x.seq, .int .i64 0, .int .i64 0, .int .i64 0, .int .i64 0, .int .i64 0, .int .i64 0, .int .i64 0, .string ⟨#[]⟩, .string ⟨#[]⟩, .string ⟨#[]⟩], .bool true]) (by simp [results, Try.results14, go_sem]) rfl ⟨by rw [HM.out]; rfl, ?_⟩
  repeat (first | (refine Below.setCell ?_ (by simp <;> omega) _) | (refine Below.alloc ?_ (by simp <;> omega) _) | (refine below_drew ?_))
  exact Below.refl _ _
set_option maxRecDepth 100000 in
set_option maxHeartbeats 4000000 in
theorem client_Asks2 (x : Cli) (v : Value) (w : World) (hx : CliV w v x) (hp : x.phase = 2) :
    Calls Try.prog 14 #[v] w (RetMsg w (asksD x)) := by
  obtain ⟨jv, tv, nv, rfl, hx⟩ := hx
  obtain ⟨XJ, Xj, XT, Xt, XN, Xn, rfl, rfl, rfl⟩ := hx.shape
  obtain ⟨⟨⟨me1, me2⟩, ⟨ep1, ep2⟩, ⟨sq1, sq2⟩, ⟨ph1, ph2⟩, ⟨nn1, nn2⟩, ⟨st1, st2⟩⟩, ojx, otx, onx⟩ := id hx.ok
  have HM := Lib.hid (show asksD x = (⟨5, x.me, x.epoch, x.seq, 0, 0, cal0⟩, true) from by simp [asksD, hp, msg0])
  have f0 : (x.phase == 0) = false := by rw [beq_eq_false_iff_ne]; omega
  have f1 : (x.phase == 1) = false := by rw [beq_eq_false_iff_ne]; omega
  have f2 : (x.phase == 2) = true := by rw [beq_iff_eq]; omega
  have f3 : (x.phase == 3) = false := by rw [beq_eq_false_iff_ne]; omega
  have f4 : (x.phase == 4) = false := by rw [beq_eq_false_iff_ne]; omega
  have g2 : x.phase ≤ 2 := by omega
  clear hp
  unfold cliC
  go_enter Try.func14, Try.ntmps14
  go_wp2_with fail
  refine bodyPost_ret (v := .tuple #[.agg #[.int .i64 5, .int .i64 x.me, .int .i64 x.epoch, .int .i64 x.seq, .int .i64 0, .int .i64 0, .int .i64 0, .int .i64 0, .int .i64 0, .int .i64 0, .int .i64 0, .string ⟨#[]⟩, .string ⟨#[]⟩, .string ⟨#[]⟩], .bool true]) (by simp [results, Try.results14, go_sem]) rfl ⟨by rw [HM.out]; rfl, ?_⟩
  repeat (first | (refine Below.setCell ?_ (by simp <;> omega) _) | (refine Below.alloc ?_ (by simp <;> omega) _) | (refine below_drew ?_))
  exact Below.refl _ _
set_option maxRecDepth 100000 in
set_option maxHeartbeats 4000000 in
theorem client_Asks3 (x : Cli) (v : Value) (w : World) (hx : CliV w v x) (hp : x.phase = 3) :
    Calls Try.prog 14 #[v] w (RetMsg w (asksD x)) := by
  obtain ⟨jv, tv, nv, rfl, hx⟩ := hx
  obtain ⟨XJ, Xj, XT, Xt, XN, Xn, rfl, rfl, rfl⟩ := hx.shape
  obtain ⟨⟨⟨me1, me2⟩, ⟨ep1, ep2⟩, ⟨sq1, sq2⟩, ⟨ph1, ph2⟩, ⟨nn1, nn2⟩, ⟨st1, st2⟩⟩, ojx, otx, onx⟩ := id hx.ok
  have HM := Lib.hid (show asksD x = (⟨0, 0, 0, 0, 0, 0, cal0⟩, false) from by simp [asksD, hp, msg0])
  have f0 : (x.phase == 0) = false := by rw [beq_eq_false_iff_ne]; omega
  have f1 : (x.phase == 1) = false := by rw [beq_eq_false_iff_ne]; omega
  have f2 : (x.phase == 2) = false := by rw [beq_eq_false_iff_ne]; omega
  have f3 : (x.phase == 3) = true := by rw [beq_iff_eq]; omega
  have f4 : (x.phase == 4) = false := by rw [beq_eq_false_iff_ne]; omega
  have g2 : 2 < x.phase := by omega
  clear hp
  unfold cliC
  go_enter Try.func14, Try.ntmps14
  go_wp2_with fail
  refine bodyPost_ret (v := .tuple #[.agg #[.int .i64 0, .int .i64 0, .int .i64 0, .int .i64 0, .int .i64 0, .int .i64 0, .int .i64 0, .int .i64 0, .int .i64 0, .int .i64 0, .int .i64 0, .string ⟨#[]⟩, .string ⟨#[]⟩, .string ⟨#[]⟩], .bool false]) (by simp [results, Try.results14, go_sem]) rfl ⟨by rw [HM.out]; rfl, ?_⟩
  repeat (first | (refine Below.setCell ?_ (by simp <;> omega) _) | (refine Below.alloc ?_ (by simp <;> omega) _) | (refine below_drew ?_))
  exact Below.refl _ _
set_option maxRecDepth 100000 in
set_option maxHeartbeats 4000000 in
theorem client_Asks4 (x : Cli) (v : Value) (w : World) (hx : CliV w v x) (hp : x.phase = 4) :
    Calls Try.prog 14 #[v] w (RetMsg w (asksD x)) := by
  obtain ⟨jv, tv, nv, rfl, hx⟩ := hx
  obtain ⟨XJ, Xj, XT, Xt, XN, Xn, rfl, rfl, rfl⟩ := hx.shape
  obtain ⟨⟨⟨me1, me2⟩, ⟨ep1, ep2⟩, ⟨sq1, sq2⟩, ⟨ph1, ph2⟩, ⟨nn1, nn2⟩, ⟨st1, st2⟩⟩, ojx, otx, onx⟩ := id hx.ok
  have HM := Lib.hid (show asksD x = (⟨0, 0, 0, 0, 0, 0, cal0⟩, false) from by simp [asksD, hp, msg0])
  have f0 : (x.phase == 0) = false := by rw [beq_eq_false_iff_ne]; omega
  have f1 : (x.phase == 1) = false := by rw [beq_eq_false_iff_ne]; omega
  have f2 : (x.phase == 2) = false := by rw [beq_eq_false_iff_ne]; omega
  have f3 : (x.phase == 3) = false := by rw [beq_eq_false_iff_ne]; omega
  have f4 : (x.phase == 4) = true := by rw [beq_iff_eq]; omega
  have g2 : 2 < x.phase := by omega
  clear hp
  unfold cliC
  go_enter Try.func14, Try.ntmps14
  go_wp2_with fail
  refine bodyPost_ret (v := .tuple #[.agg #[.int .i64 0, .int .i64 0, .int .i64 0, .int .i64 0, .int .i64 0, .int .i64 0, .int .i64 0, .int .i64 0, .int .i64 0, .int .i64 0, .int .i64 0, .string ⟨#[]⟩, .string ⟨#[]⟩, .string ⟨#[]⟩], .bool false]) (by simp [results, Try.results14, go_sem]) rfl ⟨by rw [HM.out]; rfl, ?_⟩
  repeat (first | (refine Below.setCell ?_ (by simp <;> omega) _) | (refine Below.alloc ?_ (by simp <;> omega) _) | (refine below_drew ?_))
  exact Below.refl _ _
end Go.Proofs.Ytpdedjbkfcaebaa
