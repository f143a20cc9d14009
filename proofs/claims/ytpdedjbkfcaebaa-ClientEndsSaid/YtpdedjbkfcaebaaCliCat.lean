/- slices.Grow of nothing, slices.Concat, at replies and at what is over: a row of the call's own, one piece behind the other; old memory is as it was. -/
import Derived.Test.YtpdedjbkfcaebaaCliP
import Derived.Test.YtpdedjbkfcaebaaCat
set_option linter.unusedVariables false
namespace Go.Proofs.Ytpdedjbkfcaebaa
open Go.RowKit Copyhold
theorem repElem : Elem Try.prog 24 30 (.agg #[.int .i64 0, .int .i64 0, .int .i64 0, .int .i64 0, .string ByteArray.empty, .slice none 0 0]) 6 72 := ⟨Try.underlying24, by kernel_rfl, by kernel_rfl, by decide⟩
theorem donElem : Elem Try.prog 23 53 (.agg #[.int .i64 0, .bool false, .int .i64 0, .slice none 0 0]) 4 48 := ⟨Try.underlying23, by kernel_rfl, by kernel_rfl, by decide⟩
set_option maxRecDepth 100000 in
set_option maxHeartbeats 2000000 in
theorem grow_reps (n : Nat) (hn : n ≤ 1000000) (w : World) :
    Calls Try.prog 59 #[.slice none 0 0, .int .i64 (n : Int)] w (RetOwn w 30 6 0 []) := by
  by_cases h0 : 0 < n
  · obtain ⟨G, w', hrun, hG1, hG2, hown, hb⟩ := zeros_run repElem Try.underlying3 n h0 (by omega) (by omega) w
    have HO := Lib.hid (And.intro hown hb)
    have hi0 : (0 : Int) < (n : Int) := by omega
    clear hown hb
    go_enter Try.func59, Try.ntmps59
    go_wp2_with (at_builtin; refine wpList_append_run' rfl _ _ _ _ rfl _ _ _ _ rfl rfl (hrun _) ?_)
    go_ret
    exact ⟨_, rfl, HO.out.1, HO.out.2⟩
  · obtain rfl : n = 0 := by omega
    go_enter Try.func59, Try.ntmps59
    go_wp2_with fail
    go_ret
    exact ⟨_, rfl, World.ownsRow_nil _ _ _ _, Below.refl _ _⟩
set_option maxRecDepth 100000 in
set_option maxHeartbeats 2000000 in
theorem grow_dons (n : Nat) (hn : n ≤ 1000000) (w : World) :
    Calls Try.prog 60 #[.slice none 0 0, .int .i64 (n : Int)] w (RetOwn w 53 4 0 []) := by
  by_cases h0 : 0 < n
  · obtain ⟨G, w', hrun, hG1, hG2, hown, hb⟩ := zeros_run donElem Try.underlying3 n h0 (by omega) (by omega) w
    have HO := Lib.hid (And.intro hown hb)
    have hi0 : (0 : Int) < (n : Int) := by omega
    clear hown hb
    go_enter Try.func60, Try.ntmps60
    go_wp2_with (at_builtin; refine wpList_append_run' rfl _ _ _ _ rfl _ _ _ _ rfl rfl (hrun _) ?_)
    go_ret
    exact ⟨_, rfl, HO.out.1, HO.out.2⟩
  · obtain rfl : n = 0 := by omega
    go_enter Try.func60, Try.ntmps60
    go_wp2_with fail
    go_ret
    exact ⟨_, rfl, World.ownsRow_nil _ _ _ _, Below.refl _ _⟩
end Go.Proofs.Ytpdedjbkfcaebaa
