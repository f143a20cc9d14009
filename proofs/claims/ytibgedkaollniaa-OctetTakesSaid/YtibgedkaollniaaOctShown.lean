/- copyholdlaw01.shown: the document's examples hold: it returns true; old memory is as it was. octet.Fold, octet.Unfold: as the document says, for every number. -/
import Derived.Test.YtibgedkaollniaaOctText
namespace Go.Proofs.Ytibgedkaollniaa
open Go.RowKit Copyhold

theorem numB_300 : numB 300 = [172, 2] := by rw [numB_big (by decide), numB_small (by decide)]; rfl
theorem textB_hi : textB [104, 105] = [2, 104, 105] := by unfold textB; rw [numB_small (by decide)]; rfl

theorem law_shown (w : World) :
    Calls Try.prog 10 #[] w fun e w' => e = .returned (.bool true) ∧ Below w.heap.size w w' := by
  go_enter Try.func10, Try.ntmps10
  go_wp2_with fail
  refine (octet_Num _ _ (by omega) (by omega)).mono ?_
  rintro e w1 ⟨rfl, hb1⟩
  rw [show (300 : Int).toNat = 300 from rfl, numB_300]
  go_wp2_with fail
  refine (octet_Text [104, 105] _ (by simp)).mono ?_
  rintro e w2 ⟨rfl, hb2⟩
  rw [textB_hi]
  have hsz := hb1.size
  go_wp2_with fail
  go_ret
  exact ⟨rfl, hb1.trans (hb2.mono hsz)⟩

/-- a folded number -/
def foldN (n : Int) : Int := if n < 0 then -2 * n - 1 else 2 * n
/-- an unfolded number -/
def unfoldN (n : Int) : Int := if n % 2 = 1 then -(n / 2) - 1 else n / 2

theorem octet_Fold (n : Int) (w : World) (h1 : -9223372036854775808 ≤ n) (h2 : n ≤ 9223372036854775807) :
    Calls Try.prog 18 #[.int .i64 n] w fun e w' => e = .returned (.int .u64 (foldN n)) ∧ w = w' := by
  by_cases h : n < 0
  · go_enter Try.func18, Try.ntmps18
    go_wp2
    go_ret
    exact ⟨ret_int (by rw [foldN, if_pos h]; omega), rfl⟩
  · have h0 : 0 ≤ n := by omega
    have hf : foldN n = 2 * n := if_neg h
    have HF := Lib.hid hf; clear hf h
    go_enter Try.func18, Try.ntmps18
    go_wp2
    go_ret
    exact ⟨ret_int HF.out.symm, rfl⟩

theorem octet_Unfold (n : Int) (w : World) (h1 : 0 ≤ n) (h2 : n ≤ 18446744073709551615) :
    Calls Try.prog 20 #[.int .u64 n] w fun e w' => e = .returned (.int .i64 (unfoldN n)) ∧ w = w' := by
  by_cases h : n % 2 = 1
  · go_enter Try.func20, Try.ntmps20
    go_wp2
    go_ret
    exact ⟨ret_int (by rw [unfoldN, if_pos h]), rfl⟩
  · have h0 : n % 2 = 0 := by omega
    go_enter Try.func20, Try.ntmps20
    go_wp2
    go_ret
    exact ⟨ret_int (by rw [unfoldN, if_neg (by omega)]), rfl⟩
end Go.Proofs.Ytibgedkaollniaa
