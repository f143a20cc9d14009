/- copyholdref01.Long answers some number, for rows of texts of whatever length; old memory is as it was. -/
import Derived.Test.YtpojhcpkmpbflaaRows
import Derived.Test.YtpojhcpkmpbflaaMem
import Derived.Deep.QuietTactic
import Derived.BigQuiet
set_option linter.unusedVariables false
namespace Go.Proofs.Ytpojhcpkmpbflaa
open Go.RowKit Copyhold

/-- how many bytes texts have, and how many there are, in 64 bits: of the first k -/
def longK (ls : List (List UInt8)) : Nat → Int
  | 0 => ls.length
  | k + 1 => wrap64 (longK ls k + (ls.getD k []).length)

theorem longK_range (ls : List (List UInt8)) (hl : ls.length ≤ 8796093022208) (k : Nat) : -9223372036854775808 ≤ longK ls k ∧ longK ls k ≤ 9223372036854775807 := by
  cases k with
  | zero => simp only [longK]; omega
  | succ k => simp only [longK, wrap64]; omega

theorem quietL {P : Program} {f : FuncId} {args : Array Value} {w : World} {n : Nat} {v : Value}
    (h : Calls P f args (w.drewN n) fun e w' => e = .returned v ∧ w.drewN n = w') : Calls P f args (w.drewN n) fun e w'' => e = .returned v ∧ ∃ m, w'' = w.drewN m :=
  h.mono fun _ _ ⟨he, hm⟩ => ⟨he, n, hm.symm⟩

set_option maxHeartbeats 800000 in
theorem ref_LongAny (v : Value) (ls : List (List UInt8)) (w : World) (hv : Row w v (ls.map strV)) (hll : ls.length ≤ 8796093022208) :
    Calls Try.prog 12 #[v] w fun e w' => e = .returned (.int .i64 (longK ls ls.length)) ∧ w = w' := by
  obtain ⟨a, c, rfl⟩ := hv.shape
  rw [List.length_map] at hv ⊢
  have HV := Lib.hid hv; clear hv
  go_enter Try.func12, Try.ntmps12
  go_wp2_with fail
  go_loop [3, 4] (fun n i => ∃ (k : Nat) (m : Int), k ≤ ls.length ∧ m = longK ls k ∧ i = .int .i64 k ∧ n = .int .i64 m) (fun _ i => ls.length - (intOf i).toNat)
  case atStart => exact ⟨0, ls.length, Nat.zero_le _, rfl, rfl, rfl⟩
  case round =>
    obtain ⟨k, m, hk, hm, rfl, rfl⟩ := hrel
    have hr := longK_range ls hll k
    rw [← hm] at hr
    obtain ⟨hm1, hm2⟩ := hr
    have HM := Lib.hid hm
    clear hm
    by_cases hlt : k < ls.length
    · obtain ⟨b, off, rfl, hbk, _, hcs⟩ := HV.out.at k (x := strV ls[k]) (by simp [hlt])
      have hc : w.cell? ⟨b, off + k, none⟩ = some (.string ⟨(ls[k]).toArray⟩) := hcs k (strV ls[k]) (by simp [hlt])
      have hst : longK ls (k + 1) = wrap64 (m + (ls[k].length : Int)) := by rw [longK, HM.out]; simp [List.getD, hlt]
      have HST := Lib.hid hst
      clear hcs hst
      generalize ls[k] = x at *
      go_wp2_with fail
      go_round
      case rel => exact ⟨k + 1, _, by omega, HST.out.symm, by go_num, rfl⟩
      case measure => simp [intOf]; omega
    · have hkl : k = ls.length := by omega
      have hfin : m = longK ls ls.length := by rw [HM.out, hkl]
      have HF := Lib.hid hfin
      clear hkl hfin
      go_wp2_with fail
      go_ret
      exact ⟨by rw [← HF.out]; rfl, rfl⟩

end Go.Proofs.Ytpojhcpkmpbflaa
