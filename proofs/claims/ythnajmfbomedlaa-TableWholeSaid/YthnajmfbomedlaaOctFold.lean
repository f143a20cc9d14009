/- octet.Fold, octet.Unfold: as the document says, for every number; memory is as it was. -/
import Derived.Test.YthnajmfbomedlaaOctNum
namespace Go.Proofs.Ythnajmfbomedlaa
open Go.RowKit Copyhold

/-- a folded number -/
def foldN (n : Int) : Int := if n < 0 then -2 * n - 1 else 2 * n
/-- an unfolded number -/
def unfoldN (n : Int) : Int := if n % 2 = 1 then -(n / 2) - 1 else n / 2

theorem octet_Fold (n : Int) (w : World) (h1 : -9223372036854775808 ≤ n) (h2 : n ≤ 9223372036854775807) :
    Calls Try.prog 59 #[.int .i64 n] w fun e w' => e = .returned (.int .u64 (foldN n)) ∧ w = w' := by
  by_cases h : n < 0
  · go_enter Try.func59, Try.ntmps59
    go_wp2
    go_ret
    exact ⟨ret_int (by rw [foldN, if_pos h]; omega), rfl⟩
  · have h0 : 0 ≤ n := by omega
    have hf : foldN n = 2 * n := if_neg h
    have HF := Lib.hid hf; clear hf h
    go_enter Try.func59, Try.ntmps59
    go_wp2
    go_ret
    exact ⟨ret_int HF.out.symm, rfl⟩

theorem octet_Unfold (n : Int) (w : World) (h1 : 0 ≤ n) (h2 : n ≤ 18446744073709551615) :
    Calls Try.prog 66 #[.int .u64 n] w fun e w' => e = .returned (.int .i64 (unfoldN n)) ∧ w = w' := by
  by_cases h : n % 2 = 1
  · go_enter Try.func66, Try.ntmps66
    go_wp2
    go_ret
    exact ⟨ret_int (by rw [unfoldN, if_pos h]), rfl⟩
  · have h0 : n % 2 = 0 := by omega
    go_enter Try.func66, Try.ntmps66
    go_wp2
    go_ret
    exact ⟨ret_int (by rw [unfoldN, if_neg (by omega)]), rfl⟩
end Go.Proofs.Ythnajmfbomedlaa
