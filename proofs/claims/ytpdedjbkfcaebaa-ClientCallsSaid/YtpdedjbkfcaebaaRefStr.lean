/- copyholdref01.Strings: for rows of texts of whatever length; old memory is as it was. -/
import Derived.Test.YtpdedjbkfcaebaaRows
import Derived.Test.YtpdedjbkfcaebaaMem
import Derived.Deep.QuietTactic
import Derived.BigQuiet
set_option linter.unusedVariables false
namespace Go.Proofs.Ytpdedjbkfcaebaa
open Go.RowKit Copyhold
def sameTexts (a b : List (List UInt8)) : Bool := a == b
set_option maxHeartbeats 1000000 in
theorem ref_Strings (va vb : Value) (xs ys : List (List UInt8)) (w : World) (ha : Row w va (xs.map strV)) (hb : Row w vb (ys.map strV)) (hla : xs.length ≤ 8796093022208) (hlb : ys.length ≤ 8796093022208) :
    Calls Try.prog 47 #[va, vb] w fun e w' => e = .returned (.bool (sameTexts xs ys)) ∧ Below w.heap.size w w' := by
  obtain ⟨a, c, rfl⟩ := ha.shape
  obtain ⟨a', c', rfl⟩ := hb.shape
  rw [List.length_map] at ha hb
  rw [List.length_map, List.length_map]
  have HA := Lib.hid ha
  have HB := Lib.hid hb
  clear ha hb
  by_cases hl : xs.length = ys.length
  · have hl1 : ((xs.length : Int) != (ys.length : Int)) = false := by rw [hl]; simp
    have HLL := Lib.hid hl
    clear hl
    go_enter Try.func47, Try.ntmps47
    go_wp2_with fail
    go_loopw [5] (fun i wr => ∃ (k : Nat), k ≤ xs.length ∧ xs.take k = ys.take k ∧ i = .int .i64 k ∧ Below w.heap.size w wr) (fun i _ => xs.length - (intOf i).toNat)
    case atStart => exact ⟨0, Nat.zero_le _, by simp, rfl, Below.refl _ _⟩
    case round =>
      obtain ⟨k, hk, hpre, rfl, hbw⟩ := hrel
      have HP := Lib.hid hpre
      clear hpre
      by_cases hlt : k < xs.length
      · have hlt' : k < ys.length := by have := HLL.out; omega
        obtain ⟨b, off, rfl, hbk, _, hcs⟩ := HA.out.at k (x := strV xs[k]) (by simp [hlt])
        obtain ⟨b', off', rfl, hbk', _, hcs'⟩ := HB.out.at k (x := strV ys[k]) (by simp [hlt'])
        have hc : wr.cell? ⟨b, off + k, none⟩ = some (.string ⟨(xs[k]).toArray⟩) := (hbw.cell (p := ⟨b, off + k, none⟩) hbk).trans (hcs k (strV xs[k]) (by simp [hlt]))
        have hc' : wr.cell? ⟨b', off' + k, none⟩ = some (.string ⟨(ys[k]).toArray⟩) := (hbw.cell (p := ⟨b', off' + k, none⟩) hbk').trans (hcs' k (strV ys[k]) (by simp [hlt']))
        have hi1 : (k : Int) < (xs.length : Int) := by omega
        have hi2 : (k : Int) < (ys.length : Int) := by omega
        clear hcs hcs'
        by_cases heq : xs[k] = ys[k]
        · have hst : xs.take (k + 1) = ys.take (k + 1) := by
            rw [List.take_succ_eq_append_getElem hlt, List.take_succ_eq_append_getElem hlt', HP.out, heq]
          have HS := Lib.hid hst
          clear hst
          rw [heq] at hc
          clear heq
          generalize ys[k] = y at *
          go_wp2_with fail
          go_quiet (fail)
          go_wp2_with fail
          go_roundw
          case rel => exact ⟨k + 1, by omega, HS.out, by go_num, below_dn hbw _⟩
          case measure => simp [intOf]; omega
        · have hfin : sameTexts xs ys = false := by
            unfold sameTexts
            rw [beq_eq_false_iff_ne]
            rintro rfl
            exact heq rfl
          have HF := Lib.hid hfin
          clear hfin
          have hq : (xs[k] == ys[k]) = false := by simpa using heq
          have hq2 : (xs[k] != ys[k]) = true := by simpa using heq
          clear heq
          generalize xs[k] = x at *
          generalize ys[k] = y at *
          go_wp2_with fail
          go_quiet (fail)
          go_wp2_with fail
          go_ret
          exact ⟨by rw [HF.out]; rfl, below_dn hbw _⟩
      · have hfin : sameTexts xs ys = true := by
          unfold sameTexts
          rw [beq_iff_eq]
          have h := HP.out
          rwa [List.take_of_length_le (by omega), List.take_of_length_le (by have := HLL.out; omega)] at h
        have HF := Lib.hid hfin
        clear hfin
        go_wp2_with fail
        go_ret
        exact ⟨by rw [HF.out]; rfl, hbw⟩
  · have hl1 : ((xs.length : Int) != (ys.length : Int)) = true := by simp; omega
    have hfin : sameTexts xs ys = false := by
      unfold sameTexts
      rw [beq_eq_false_iff_ne]
      rintro rfl
      exact hl rfl
    have HF := Lib.hid hfin
    clear hfin hl
    go_enter Try.func47, Try.ntmps47
    go_wp2_with fail
    go_ret
    exact ⟨by rw [HF.out]; rfl, Below.refl _ _⟩
end Go.Proofs.Ytpdedjbkfcaebaa
