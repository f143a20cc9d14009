/- copyholdref01.Num, Text, Fold, Unfold: the document's own answers: a short number's and a text's bytes; folded numbers; old memory is as it was. -/
import Derived.Test.YthnajmfbomedlaaOctNum
import Derived.Test.YthnajmfbomedlaaOctFold
import Derived.Deep.RegionWith
namespace Go.Proofs.Ythnajmfbomedlaa
open Go.RowKit Copyhold

theorem conv_after {w w' : World} {x : Int} {B : Nat} (hb : Below B ((w.alloc (.cells #[.int .u8 x] 5)).drew) w') (hB : w.heap.size < B) :
    (convert 107 9 (.slice (some ⟨w.heap.size, 0, none⟩) 1 1)).run Try.prog w' = .ok (.string ⟨[UInt8.ofNat x.toNat].toArray⟩) w' := by
  refine run_convert_own (xs := [x]) (base := 0) (n := 1) (e := 5) _ _ Try.underlying107 Try.underlying5 Try.underlying9 ⟨by simp, .inr ⟨w.heap.size, 1, #[.int .u8 x], rfl, Nat.zero_le _, ?_, Nat.le_refl _, by simp [maxLen], by simp, by simp⟩⟩
  rw [hb.block _ hB]
  exact heap_alloc_new w _

set_option maxRecDepth 100000 in
set_option maxHeartbeats 4000000 in
theorem ref_Num_aux (k : Nat) : ∀ (n : Int) (w : World), n < k → 0 ≤ n → n ≤ 18446744073709551615 →
    Calls Try.prog 47 #[.int .u64 n] w fun e w' => e = .returned (.string ⟨(numB n.toNat).toArray⟩) ∧ Below w.heap.size w w' := by
  induction k with
  | zero => intro n w h1 h2; omega
  | succ k ih =>
    intro n w hk h0 h1
    have IH := Lib.hid ih; clear ih
    by_cases hs : n < 128
    · have hcv : (convert 107 9 (.slice (some ⟨w.heap.size, 0, none⟩) 1 1)).run Try.prog (w.alloc (.cells #[.int .u8 n] 5)) = .ok (.string ⟨(numB n.toNat).toArray⟩) (w.alloc (.cells #[.int .u8 n] 5)) := by
        rw [numB_small (by omega)]
        exact run_convert_own (xs := [n]) _ _ Try.underlying107 Try.underlying5 Try.underlying9 (owns_built (base := 0) #[.int .u8 n] (Nat.zero_le _) (by simp [maxLen]))
      go_enter Try.func47, Try.ntmps47
      go_wp2_with fail
      go_ret
      exact ⟨rfl, (Below.refl _ _).alloc (Nat.le_refl _) _⟩
    · go_enter Try.func47, Try.ntmps47
      go_wp2_with fail
      have hcv1 : ∀ (x : Int) (W : World), (convert 107 9 (.slice (some ⟨W.heap.size, 0, none⟩) 1 1)).run Try.prog (W.alloc (.cells #[.int .u8 x] 5)).drew = .ok (.string ⟨[UInt8.ofNat x.toNat].toArray⟩) (W.alloc (.cells #[.int .u8 x] 5)).drew :=
        fun x W => run_convert_own (xs := [x]) _ _ Try.underlying107 Try.underlying5 Try.underlying9 (owns_built (w := W) (base := 0) #[.int .u8 x] (Nat.zero_le _) (by simp [maxLen])).drew
      have hcv2 : ∀ (x : Int) (W : World), (convert 107 9 (.slice (some ⟨W.heap.size, 0, none⟩) 1 1)).run Try.prog (W.alloc (.cells #[.int .u8 x] 5)) = .ok (.string ⟨[UInt8.ofNat x.toNat].toArray⟩) (W.alloc (.cells #[.int .u8 x] 5)) :=
        fun x W => run_convert_own (xs := [x]) _ _ Try.underlying107 Try.underlying5 Try.underlying9 (owns_built (w := W) (base := 0) #[.int .u8 x] (Nat.zero_le _) (by simp [maxLen]))
      have e1 : IntKind.u64.wrap (n.tdiv 128) = n / 128 := by
        rw [Int.tdiv_eq_ediv_of_nonneg h0]
        simp only [IntKind.wrap, IntKind.bits, IntKind.signed]
        have : n / 128 % 18446744073709551616 = n / 128 := by omega
        simpa using this
      have e2 : IntKind.u8.wrap (IntKind.u64.wrap (n.tmod 128 + 128)) = n % 128 + 128 := by
        rw [Int.tmod_eq_emod_of_nonneg h0]
        simp only [IntKind.wrap, IntKind.bits, IntKind.signed]
        have : (n % 128 + 128) % 18446744073709551616 % 256 = n % 128 + 128 := by omega
        simpa using this
      have hle := numB_len10 (n / 128).toNat (by omega)
      have hfin : UInt8.ofNat (n % 128 + 128).toNat :: numB (n / 128).toNat = numB n.toNat := by
        rw [numB_big (n := n.toNat) (by omega), show (n % 128 + 128).toNat = n.toNat % 128 + 128 from by omega, show (n / 128).toNat = n.toNat / 128 from by omega]
      have HF := Lib.hid hfin
      clear hfin
      go_region_with (go_at_call 47; refine (IH.out (n / 128) _ (by omega) (by omega) (by omega)).mono ?_; rintro e w' ⟨rfl, hb⟩; (try (have hcv3 := conv_after hb (by simp))))
      all_goals
        go_wp2_with fail
        go_ret
        refine ⟨by rw [← HF.out]; rfl, ?_⟩
        first
          | exact ((Below.refl w.heap.size w).alloc (Nat.le_refl _) _).drew.trans (hb.mono (by simp))
          | exact ((Below.refl w.heap.size w).drew.trans hb).alloc hb.size _

theorem ref_Num (n : Int) (w : World) (h0 : 0 ≤ n) (h1 : n ≤ 18446744073709551615) :
    Calls Try.prog 47 #[.int .u64 n] w fun e w' => e = .returned (.string ⟨(numB n.toNat).toArray⟩) ∧ Below w.heap.size w w' :=
  ref_Num_aux (n.toNat + 1) n w (by omega) h0 h1

theorem ref_Fold (n : Int) (w : World) (h1 : -9223372036854775808 ≤ n) (h2 : n ≤ 9223372036854775807) :
    Calls Try.prog 63 #[.int .i64 n] w fun e w' => e = .returned (.int .u64 (foldN n)) ∧ w = w' := by
  by_cases h : n < 0
  · have hf : foldN n = -2 * n - 1 := if_pos h
    have HF := Lib.hid hf; clear hf
    go_enter Try.func63, Try.ntmps63
    go_wp2
    go_ret
    exact ⟨ret_int (by rw [HF.out]; simp only [wrap_u64']; omega), rfl⟩
  · have hf : foldN n = 2 * n := if_neg h
    have h0 : 0 ≤ n := by omega
    have HF := Lib.hid hf; clear hf h
    go_enter Try.func63, Try.ntmps63
    go_wp2
    go_ret
    exact ⟨ret_int HF.out.symm, rfl⟩

theorem ref_Unfold (n : Int) (w : World) (h1 : 0 ≤ n) (h2 : n ≤ 18446744073709551615) :
    Calls Try.prog 58 #[.int .u64 n] w fun e w' => e = .returned (.int .i64 (unfoldN n)) ∧ w = w' := by
  by_cases h : n % 2 = 1
  · go_enter Try.func58, Try.ntmps58
    go_wp2
    go_ret
    exact ⟨ret_int (by rw [unfoldN, if_pos h]), rfl⟩
  · have h0 : n % 2 = 0 := by omega
    go_enter Try.func58, Try.ntmps58
    go_wp2
    go_ret
    exact ⟨ret_int (by rw [unfoldN, if_neg (by omega)]), rfl⟩
end Go.Proofs.Ythnajmfbomedlaa
