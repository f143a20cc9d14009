/- copyholdref09.Cut, copyholdref09.Write: they answer as the document says; old memory is as it was. -/
import Derived.Test.YtgmpgmhbfkdalaaRef09R
import Derived.Test.YtgmpgmhbfkdalaaDataSplit
set_option linter.unusedVariables false
namespace Go.Proofs.Ytgmpgmhbfkdalaa
open Go.RowKit Copyhold
attribute [local go_sem] piece

theorem zeros_cut (l : List UInt8) (n j : Nat) (h : n ≤ l.length + j) : (l ++ List.replicate j 0).take n = fillD l n := by
  unfold fillD
  rw [List.take_append, List.take_replicate, show min (n - l.length) j = n - l.length from by omega]

set_option maxHeartbeats 1000000 in
theorem ref09_Cut_ok (s : List UInt8) (n : Nat) (w : World) (hs : s.length ≤ 1048576) (hn : n ≤ 4096) :
    Calls Try.prog 16 #[.string ⟨s.toArray⟩, .int .i64 n] w fun e w' => e = .returned (.tuple #[.string ⟨(fillD s n).toArray⟩, .int .i64 0]) ∧ Below w.heap.size w w' := by
  have h0 : (0 : Int) ≤ (n : Int) := by omega
  go_enter Try.func16, Try.ntmps16
  go_wp2_with fail
  go_loopw [0] (fun so wr => ∃ (l : List UInt8) (j : Nat), so = .string ⟨l.toArray⟩ ∧ l = s ++ List.replicate j 0 ∧ l.length ≤ 2097152 ∧ Below w.heap.size w wr ∧ (j = 0 ∨ s.length + j ≤ n)) (fun so _ => n - (match so with | .string b => b.size | _ => 0))
  case atStart => exact ⟨s, 0, rfl, by simp, by omega, Below.refl _ _, .inl rfl⟩
  case round =>
    obtain ⟨l, j, rfl, hl, hll, hb, hj⟩ := hrel
    have HL := Lib.hid hl
    have hlen : l.length = s.length + j := by rw [hl]; simp
    have HLEN := Lib.hid hlen
    clear hl hlen
    by_cases hlt : l.length < n
    · have hnext : l ++ [0] = s ++ List.replicate (j + 1) 0 := by rw [HL.out, List.append_assoc, List.replicate_succ']
      have HN := Lib.hid hnext
      clear hnext
      go_wp2_with fail
      go_roundw
      case rel => exact ⟨l ++ [0], j + 1, rfl, HN.out, by rw [List.length_append]; simp; omega, hb, .inr (by have := HLEN.out; omega)⟩
      case measure => simp [ByteArray.size]; omega
    · have hfin : l.take n = fillD s n := by rw [HL.out]; exact zeros_cut s n j (by have := HLEN.out; omega)
      have HF := Lib.hid hfin
      have hle : (n : Int) ≤ (l.length : Int) := by omega
      clear hfin
      go_wp2_with fail
      go_ret2
      exact ⟨by rw [← HF.out]; rfl, hb⟩

theorem ref09_Cut (s : List UInt8) (n : Int) (w : World) (hs : s.length ≤ 1048576) (h1 : -9223372036854775808 ≤ n) (h2 : n ≤ 9223372036854775807) :
    Calls Try.prog 16 #[.string ⟨s.toArray⟩, .int .i64 n] w fun e w' => e = .returned (.tuple #[.string ⟨(cutD s n).1.toArray⟩, .int .i64 (cutD s n).2]) ∧ Below w.heap.size w w' := by
  rcases (show n < 0 ∨ 0 ≤ n ∧ 1099511627776 < n ∨ 0 ≤ n ∧ n ≤ 1099511627776 ∧ 4096 < n ∨ 0 ≤ n ∧ n ≤ 4096 from by omega) with h | ⟨h, h'⟩ | ⟨h, h', h''⟩ | ⟨h, h'⟩
  · have hr : refusedD 0 n = 1 := by unfold refusedD; rw [if_neg (by omega)]
    have hc : cutD s n = (s, 1) := by unfold cutD; rw [hr]; rfl
    rw [hc]
    clear hr hc
    go_enter Try.func16, Try.ntmps16
    go_wp2_with fail
    go_ret2
    exact ⟨rfl, Below.refl _ _⟩
  · have hr : refusedD 0 n = 1 := by unfold refusedD; rw [if_neg (by omega)]
    have hc : cutD s n = (s, 1) := by unfold cutD; rw [hr]; rfl
    rw [hc]
    clear hr hc
    go_enter Try.func16, Try.ntmps16
    go_wp2_with fail
    go_ret2
    exact ⟨rfl, Below.refl _ _⟩
  · have hr : refusedD 0 n = 5 := by unfold refusedD; rw [if_pos (by omega), if_pos (by omega)]
    have hc : cutD s n = (s, 5) := by unfold cutD; rw [hr]; rfl
    rw [hc]
    clear hr hc
    go_enter Try.func16, Try.ntmps16
    go_wp2_with fail
    go_ret2
    exact ⟨rfl, Below.refl _ _⟩
  · obtain ⟨n, rfl⟩ := Int.eq_ofNat_of_zero_le h
    have hr : refusedD 0 (n : Int) = 0 := by unfold refusedD; rw [if_pos (by omega), if_neg (by omega)]
    have hc : cutD s n = (fillD s n, 0) := by unfold cutD; rw [if_pos hr, Int.toNat_natCast]
    rw [hc]
    exact ref09_Cut_ok s n w hs (by omega)
end Go.Proofs.Ytgmpgmhbfkdalaa
