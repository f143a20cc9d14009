/- slices.Grow of nothing, slices.Concat, at replies and at what is over: a row of the call's own, one piece behind the other; old memory is as it was. -/
import Derived.Test.YtpdedjbkfcaebaaCliP
import Derived.Test.YtpdedjbkfcaebaaCat
set_option linter.unusedVariables false
namespace Go.Proofs.Ytpdedjbkfcaebaa
open Go.RowKit Copyhold

theorem repElem : Elem Try.prog 24 30 (.agg #[.int .i64 0, .int .i64 0, .int .i64 0, .int .i64 0, .string ByteArray.empty, .slice none 0 0]) 6 72 := ⟨Try.underlying24, by kernel_rfl, by kernel_rfl, by decide⟩
theorem donElem : Elem Try.prog 23 53 (.agg #[.int .i64 0, .bool false, .int .i64 0, .slice none 0 0]) 4 48 := ⟨Try.underlying23, by kernel_rfl, by kernel_rfl, by decide⟩

set_option maxRecDepth 100000 in
set_option maxHeartbeats 2000000 in
theorem grow_reps (n : Nat) (hn : n ≤ 1000000) (w : World) :
    Calls Try.prog 59 #[.slice none 0 0, .int .i64 (n : Int)] w (RetOwn w 30 6 0 []) := by
  by_cases h0 : 0 < n
  · obtain ⟨G, w', hrun, hG1, hG2, hown, hb⟩ := zeros_run repElem Try.underlying3 n h0 (by omega) (by omega) w
    have HO := Lib.hid (And.intro hown hb)
    have hi0 : (0 : Int) < (n : Int) := by omega
    clear hown hb
    go_enter Try.func59, Try.ntmps59
    go_wp2_with (at_builtin; refine wpList_append_run' rfl _ _ _ _ rfl _ _ _ _ rfl rfl (hrun _) ?_)
    go_ret
    exact ⟨_, rfl, HO.out.1, HO.out.2⟩
  · obtain rfl : n = 0 := by omega
    go_enter Try.func59, Try.ntmps59
    go_wp2_with fail
    go_ret
    exact ⟨_, rfl, World.ownsRow_nil _ _ _ _, Below.refl _ _⟩

set_option maxRecDepth 100000 in
set_option maxHeartbeats 2000000 in
theorem concat_reps (ss : List Piece) (v : Value) (w : World) (hc : Cats w 6 v ss) (hl : ss.length ≤ 1000000) (hs : catN ss ≤ 1000000) :
    Calls Try.prog 57 #[v] w (RetOwn w 30 6 (catN ss) (catL ss)) := by
  obtain ⟨A, c, rfl, -, -⟩ := hc.1.shape
  have HC := Lib.hid hc
  have HS := Lib.hid hs
  clear hc hs
  go_enter Try.func57, Try.ntmps57
  go_wp2_with fail
  go_loop [3, 11] (fun sn si => ∃ k m : Nat, si = .int .i64 k ∧ sn = .int .i64 m ∧ k ≤ ss.length ∧ m = catN (ss.take k) ∧ m ≤ 1000000) (fun _ si => ss.length - (intOf si).toNat)
  case atStart => exact ⟨0, 0, rfl, rfl, Nat.zero_le _, rfl, by omega⟩
  case round =>
    obtain ⟨k, m, rfl, rfl, hk, hm, hmb⟩ := hrel
    have HM := Lib.hid hm
    clear hm
    by_cases hlt : k < ss.length
    · obtain ⟨b, off, A', n', c', rfl, hbk, hck, hsl, hone⟩ := HC.out.at k hlt
      have hst := catN_step ss k hlt
      rw [hsl.n_is] at hst
      have hle := catN_mono ss (k + 1)
      have hm2 : m + n' ≤ 1000000 := by have := HM.out; have := HS.out; omega
      have HST := Lib.hid (show m + n' = catN (ss.take (k + 1)) from by rw [hst, HM.out])
      clear hst hle hsl hone HM
      go_wp2_with fail
      go_round
      case rel => exact ⟨k + 1, m + n', by go_num, by go_num, by omega, HST.out, hm2⟩
      case measure => simp [intOf]; omega
    · obtain rfl : m = catN ss := by rw [HM.out, List.take_of_length_le (by omega)]
      clear HM hk
      obtain ⟨M, hM⟩ : ∃ M, M = catN ss := ⟨_, rfl⟩
      have HMM := Lib.hid hM
      rw [← hM] at hmb ⊢
      clear hM
      go_wp2_with fail
      refine (grow_reps M hmb w).mono ?_
      rintro e w1 ⟨v1, rfl, ho1, hb1⟩
      have HO1 := Lib.hid ho1
      have HB1 := Lib.hid hb1
      clear ho1 hb1 hlt
      go_wp2_with fail
      go_loopw [6, 27] (fun sp si wr => ∃ k : Nat, si = .int .i64 k ∧ k ≤ ss.length ∧ wr.ownsRow w.heap.size 30 6 sp (catN (ss.take k)) (catL (ss.take k)) ∧ Below w.heap.size w wr) (fun _ si _ => ss.length - (intOf si).toNat)
      case atStart => exact ⟨0, rfl, Nat.zero_le _, HO1.out, HB1.out⟩
      case round =>
        obtain ⟨k, rfl, hk, hown, hbk⟩ := hrel
        have HOWN := Lib.hid hown
        have HBK := Lib.hid hbk
        clear hown hbk HO1 HB1
        by_cases hlt : k < ss.length
        · obtain ⟨b, off, A', n', c', rfl, hbb, hck, hsl, hone⟩ := (HC.out.below HBK.out).at k hlt
          have hst := catN_step ss k hlt
          have hst2 := catL_step ss k hlt
          rw [hsl.n_is] at hst
          have hle := catN_mono ss (k + 1)
          obtain ⟨v2, w2, hrun, ho2, hg2, hb2⟩ := append_sl repElem wr w.heap.size 24 _ _ _ HOWN.out _ n' _ hsl.sl hone (by unfold maxLen; have := HS.out; omega) (by have := HS.out; omega) HBK.out.size
          have HO2 := Lib.hid ho2
          have HB2 := Lib.hid (HBK.out.grown hg2 HBK.out.size (fun g hg => (own_block_ge HOWN.out g hg).1))
          have HST := Lib.hid (And.intro hst hst2)
          clear hst hst2 hle hsl hone ho2 hg2 hb2
          go_wp2_with (at_builtin; refine wpList_append_run rfl _ _ _ rfl _ _ _ _ rfl rfl hrun ?_)
          go_roundw
          case rel => exact ⟨k + 1, by go_num, by omega, by rw [HST.out.1, HST.out.2]; exact HO2.out, HB2.out⟩
          case measure => simp [intOf]; omega
        · have hfin : ss.take k = ss := List.take_of_length_le (by omega)
          have HO := Lib.hid (show wr.ownsRow w.heap.size 30 6 u6 (catN ss) (catL ss) from by have := HOWN.out; rwa [hfin] at this)
          clear hfin
          go_wp2_with fail
          go_ret
          exact ⟨_, rfl, HO.out, HBK.out⟩

set_option maxRecDepth 100000 in
set_option maxHeartbeats 2000000 in
theorem grow_dons (n : Nat) (hn : n ≤ 1000000) (w : World) :
    Calls Try.prog 60 #[.slice none 0 0, .int .i64 (n : Int)] w (RetOwn w 53 4 0 []) := by
  by_cases h0 : 0 < n
  · obtain ⟨G, w', hrun, hG1, hG2, hown, hb⟩ := zeros_run donElem Try.underlying3 n h0 (by omega) (by omega) w
    have HO := Lib.hid (And.intro hown hb)
    have hi0 : (0 : Int) < (n : Int) := by omega
    clear hown hb
    go_enter Try.func60, Try.ntmps60
    go_wp2_with (at_builtin; refine wpList_append_run' rfl _ _ _ _ rfl _ _ _ _ rfl rfl (hrun _) ?_)
    go_ret
    exact ⟨_, rfl, HO.out.1, HO.out.2⟩
  · obtain rfl : n = 0 := by omega
    go_enter Try.func60, Try.ntmps60
    go_wp2_with fail
    go_ret
    exact ⟨_, rfl, World.ownsRow_nil _ _ _ _, Below.refl _ _⟩

set_option maxRecDepth 100000 in
set_option maxHeartbeats 2000000 in
theorem concat_dons (ss : List Piece) (v : Value) (w : World) (hc : Cats w 4 v ss) (hl : ss.length ≤ 1000000) (hs : catN ss ≤ 1000000) :
    Calls Try.prog 58 #[v] w (RetOwn w 53 4 (catN ss) (catL ss)) := by
  obtain ⟨A, c, rfl, -, -⟩ := hc.1.shape
  have HC := Lib.hid hc
  have HS := Lib.hid hs
  clear hc hs
  go_enter Try.func58, Try.ntmps58
  go_wp2_with fail
  go_loop [3, 11] (fun sn si => ∃ k m : Nat, si = .int .i64 k ∧ sn = .int .i64 m ∧ k ≤ ss.length ∧ m = catN (ss.take k) ∧ m ≤ 1000000) (fun _ si => ss.length - (intOf si).toNat)
  case atStart => exact ⟨0, 0, rfl, rfl, Nat.zero_le _, rfl, by omega⟩
  case round =>
    obtain ⟨k, m, rfl, rfl, hk, hm, hmb⟩ := hrel
    have HM := Lib.hid hm
    clear hm
    by_cases hlt : k < ss.length
    · obtain ⟨b, off, A', n', c', rfl, hbk, hck, hsl, hone⟩ := HC.out.at k hlt
      have hst := catN_step ss k hlt
      rw [hsl.n_is] at hst
      have hle := catN_mono ss (k + 1)
      have hm2 : m + n' ≤ 1000000 := by have := HM.out; have := HS.out; omega
      have HST := Lib.hid (show m + n' = catN (ss.take (k + 1)) from by rw [hst, HM.out])
      clear hst hle hsl hone HM
      go_wp2_with fail
      go_round
      case rel => exact ⟨k + 1, m + n', by go_num, by go_num, by omega, HST.out, hm2⟩
      case measure => simp [intOf]; omega
    · obtain rfl : m = catN ss := by rw [HM.out, List.take_of_length_le (by omega)]
      clear HM hk
      obtain ⟨M, hM⟩ : ∃ M, M = catN ss := ⟨_, rfl⟩
      have HMM := Lib.hid hM
      rw [← hM] at hmb ⊢
      clear hM
      go_wp2_with fail
      refine (grow_dons M hmb w).mono ?_
      rintro e w1 ⟨v1, rfl, ho1, hb1⟩
      have HO1 := Lib.hid ho1
      have HB1 := Lib.hid hb1
      clear ho1 hb1 hlt
      go_wp2_with fail
      go_loopw [6, 27] (fun sp si wr => ∃ k : Nat, si = .int .i64 k ∧ k ≤ ss.length ∧ wr.ownsRow w.heap.size 53 4 sp (catN (ss.take k)) (catL (ss.take k)) ∧ Below w.heap.size w wr) (fun _ si _ => ss.length - (intOf si).toNat)
      case atStart => exact ⟨0, rfl, Nat.zero_le _, HO1.out, HB1.out⟩
      case round =>
        obtain ⟨k, rfl, hk, hown, hbk⟩ := hrel
        have HOWN := Lib.hid hown
        have HBK := Lib.hid hbk
        clear hown hbk HO1 HB1
        by_cases hlt : k < ss.length
        · obtain ⟨b, off, A', n', c', rfl, hbb, hck, hsl, hone⟩ := (HC.out.below HBK.out).at k hlt
          have hst := catN_step ss k hlt
          have hst2 := catL_step ss k hlt
          rw [hsl.n_is] at hst
          have hle := catN_mono ss (k + 1)
          obtain ⟨v2, w2, hrun, ho2, hg2, hb2⟩ := append_sl donElem wr w.heap.size 23 _ _ _ HOWN.out _ n' _ hsl.sl hone (by unfold maxLen; have := HS.out; omega) (by have := HS.out; omega) HBK.out.size
          have HO2 := Lib.hid ho2
          have HB2 := Lib.hid (HBK.out.grown hg2 HBK.out.size (fun g hg => (own_block_ge HOWN.out g hg).1))
          have HST := Lib.hid (And.intro hst hst2)
          clear hst hst2 hle hsl hone ho2 hg2 hb2
          go_wp2_with (at_builtin; refine wpList_append_run rfl _ _ _ rfl _ _ _ _ rfl rfl hrun ?_)
          go_roundw
          case rel => exact ⟨k + 1, by go_num, by omega, by rw [HST.out.1, HST.out.2]; exact HO2.out, HB2.out⟩
          case measure => simp [intOf]; omega
        · have hfin : ss.take k = ss := List.take_of_length_le (by omega)
          have HO := Lib.hid (show wr.ownsRow w.heap.size 53 4 u6 (catN ss) (catL ss) from by have := HOWN.out; rwa [hfin] at this)
          clear hfin
          go_wp2_with fail
          go_ret
          exact ⟨_, rfl, HO.out, HBK.out⟩
end Go.Proofs.Ytpdedjbkfcaebaa
