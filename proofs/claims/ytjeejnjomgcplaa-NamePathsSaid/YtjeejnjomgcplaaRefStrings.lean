/- copyholdref01.Strings, and that copyholdref01.Long answers some number: for rows of texts of whatever length; old memory is as it was. -/
import Derived.Test.YtjeejnjomgcplaaRows
import Derived.Test.YtjeejnjomgcplaaMem
import Derived.Deep.QuietTactic
import Derived.BigQuiet
set_option linter.unusedVariables false
namespace Go.Proofs.Ytjeejnjomgcplaa
open Go.RowKit Copyhold

/-- how many bytes texts have, and how many there are, in 64 bits: of the first k -/
def longK (ls : List (List UInt8)) : Nat → Int
  | 0 => ls.length
  | k + 1 => wrap64 (longK ls k + (ls.getD k []).length)

theorem longK_range (ls : List (List UInt8)) (hl : ls.length ≤ 8796093022208) (k : Nat) : -9223372036854775808 ≤ longK ls k ∧ longK ls k ≤ 9223372036854775807 := by
  cases k with
  | zero => simp only [longK]; omega
  | succ k => simp only [longK, wrap64]; omega

theorem quietL {P : Program} {f : FuncId} {args : Array Value} {w : World} {n : Nat} {v : Value}
    (h : Calls P f args (w.drewN n) fun e w' => e = .returned v ∧ w.drewN n = w') : Calls P f args (w.drewN n) fun e w'' => e = .returned v ∧ ∃ m, w'' = w.drewN m :=
  h.mono fun _ _ ⟨he, hm⟩ => ⟨he, n, hm.symm⟩

set_option maxHeartbeats 800000 in
theorem ref_LongAny (v : Value) (ls : List (List UInt8)) (w : World) (hv : Row w v (ls.map strV)) (hll : ls.length ≤ 8796093022208) :
    Calls Try.prog 27 #[v] w fun e w' => e = .returned (.int .i64 (longK ls ls.length)) ∧ w = w' := by
  obtain ⟨a, c, rfl⟩ := hv.shape
  rw [List.length_map] at hv ⊢
  have HV := Lib.hid hv; clear hv
  go_enter Try.func27, Try.ntmps27
  go_wp2_with fail
  go_loop [3, 4] (fun n i => ∃ (k : Nat) (m : Int), k ≤ ls.length ∧ m = longK ls k ∧ i = .int .i64 k ∧ n = .int .i64 m) (fun _ i => ls.length - (intOf i).toNat)
  case atStart => exact ⟨0, ls.length, Nat.zero_le _, rfl, rfl, rfl⟩
  case round =>
    obtain ⟨k, m, hk, hm, rfl, rfl⟩ := hrel
    have hr := longK_range ls hll k
    rw [← hm] at hr
    obtain ⟨hm1, hm2⟩ := hr
    have HM := Lib.hid hm
    clear hm
    by_cases hlt : k < ls.length
    · obtain ⟨b, off, rfl, hbk, _, hcs⟩ := HV.out.at k (x := strV ls[k]) (by simp [hlt])
      have hc : w.cell? ⟨b, off + k, none⟩ = some (.string ⟨(ls[k]).toArray⟩) := hcs k (strV ls[k]) (by simp [hlt])
      have hst : longK ls (k + 1) = wrap64 (m + (ls[k].length : Int)) := by rw [longK, HM.out]; simp [List.getD, hlt]
      have HST := Lib.hid hst
      clear hcs hst
      generalize ls[k] = x at *
      go_wp2_with fail
      go_round
      case rel => exact ⟨k + 1, _, by omega, HST.out.symm, by go_num, rfl⟩
      case measure => simp [intOf]; omega
    · have hkl : k = ls.length := by omega
      have hfin : m = longK ls ls.length := by rw [HM.out, hkl]
      have HF := Lib.hid hfin
      clear hkl hfin
      go_wp2_with fail
      go_ret
      exact ⟨by rw [← HF.out]; rfl, rfl⟩

/-- 'are two rows the same?' -/
def sameTexts (a b : List (List UInt8)) : Bool := a == b

set_option maxHeartbeats 1000000 in
theorem ref_Strings (va vb : Value) (xs ys : List (List UInt8)) (w : World) (ha : Row w va (xs.map strV)) (hb : Row w vb (ys.map strV)) (hla : xs.length ≤ 8796093022208) (hlb : ys.length ≤ 8796093022208) :
    Calls Try.prog 14 #[va, vb] w fun e w' => e = .returned (.bool (sameTexts xs ys)) ∧ Below w.heap.size w w' := by
  obtain ⟨a, c, rfl⟩ := ha.shape
  obtain ⟨a', c', rfl⟩ := hb.shape
  rw [List.length_map] at ha hb
  rw [List.length_map, List.length_map]
  have HA := Lib.hid ha
  have HB := Lib.hid hb
  clear ha hb
  by_cases hl : xs.length = ys.length
  · have hl1 : ((xs.length : Int) != (ys.length : Int)) = false := by rw [hl]; simp
    have HLL := Lib.hid hl
    clear hl
    go_enter Try.func14, Try.ntmps14
    go_wp2_with fail
    go_loopw [5] (fun i wr => ∃ (k : Nat), k ≤ xs.length ∧ xs.take k = ys.take k ∧ i = .int .i64 k ∧ Below w.heap.size w wr) (fun i _ => xs.length - (intOf i).toNat)
    case atStart => exact ⟨0, Nat.zero_le _, by simp, rfl, Below.refl _ _⟩
    case round =>
      obtain ⟨k, hk, hpre, rfl, hbw⟩ := hrel
      have HP := Lib.hid hpre
      clear hpre
      by_cases hlt : k < xs.length
      · have hlt' : k < ys.length := by have := HLL.out; omega
        obtain ⟨b, off, rfl, hbk, _, hcs⟩ := HA.out.at k (x := strV xs[k]) (by simp [hlt])
        obtain ⟨b', off', rfl, hbk', _, hcs'⟩ := HB.out.at k (x := strV ys[k]) (by simp [hlt'])
        have hc : wr.cell? ⟨b, off + k, none⟩ = some (.string ⟨(xs[k]).toArray⟩) := (hbw.cell (p := ⟨b, off + k, none⟩) hbk).trans (hcs k (strV xs[k]) (by simp [hlt]))
        have hc' : wr.cell? ⟨b', off' + k, none⟩ = some (.string ⟨(ys[k]).toArray⟩) := (hbw.cell (p := ⟨b', off' + k, none⟩) hbk').trans (hcs' k (strV ys[k]) (by simp [hlt']))
        have hi1 : (k : Int) < (xs.length : Int) := by omega
        have hi2 : (k : Int) < (ys.length : Int) := by omega
        clear hcs hcs'
        by_cases heq : xs[k] = ys[k]
        · have hst : xs.take (k + 1) = ys.take (k + 1) := by
            rw [List.take_succ_eq_append_getElem hlt, List.take_succ_eq_append_getElem hlt', HP.out, heq]
          have HS := Lib.hid hst
          clear hst
          rw [heq] at hc
          clear heq
          generalize ys[k] = y at *
          go_wp2_with fail
          go_quiet (fail)
          go_wp2_with fail
          go_roundw
          case rel => exact ⟨k + 1, by omega, HS.out, by go_num, below_dn hbw _⟩
          case measure => simp [intOf]; omega
        · have hfin : sameTexts xs ys = false := by
            unfold sameTexts
            rw [beq_eq_false_iff_ne]
            rintro rfl
            exact heq rfl
          have HF := Lib.hid hfin
          clear hfin
          have hq : (xs[k] == ys[k]) = false := by simpa using heq
          have hq2 : (xs[k] != ys[k]) = true := by simpa using heq
          clear heq
          generalize xs[k] = x at *
          generalize ys[k] = y at *
          go_wp2_with fail
          go_quiet (fail)
          go_wp2_with fail
          go_ret
          exact ⟨by rw [HF.out]; rfl, below_dn hbw _⟩
      · have hfin : sameTexts xs ys = true := by
          unfold sameTexts
          rw [beq_iff_eq]
          have h := HP.out
          rwa [List.take_of_length_le (by omega), List.take_of_length_le (by have := HLL.out; omega)] at h
        have HF := Lib.hid hfin
        clear hfin
        go_wp2_with fail
        go_ret
        exact ⟨by rw [HF.out]; rfl, hbw⟩
  · have hl1 : ((xs.length : Int) != (ys.length : Int)) = true := by simp; omega
    have hfin : sameTexts xs ys = false := by
      unfold sameTexts
      rw [beq_eq_false_iff_ne]
      rintro rfl
      exact hl rfl
    have HF := Lib.hid hfin
    clear hfin hl
    go_enter Try.func14, Try.ntmps14
    go_wp2_with fail
    go_ret
    exact ⟨by rw [HF.out]; rfl, Below.refl _ _⟩
end Go.Proofs.Ytjeejnjomgcplaa
