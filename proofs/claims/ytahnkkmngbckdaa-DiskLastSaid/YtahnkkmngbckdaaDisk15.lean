/- What the laws of stage 4 share. -/
import Derived.Test.YtahnkkmngbckdaaDisk14
import Derived.Test.YtahnkkmngbckdaaLawOf
set_option linter.unusedVariables false
namespace Copyhold.Disk
open Go Go.RowKit
theorem okd_new (n : Nat) (h : n ≤ 4096) (pd : List UInt8) (hp : pd.length = 64) : OkD ⟨List.replicate n pd, [], false⟩ := by
  refine ⟨by simp; omega, fun l hl => ?_, fun x hx => (by simp at hx), by simp⟩
  simp only [List.mem_replicate] at hl
  rw [hl.2, hp]
  omega
theorem okd_empty : OkD ⟨[], [], false⟩ := ⟨by simp, fun l hl => (by simp at hl), fun x hx => (by simp at hx), by simp⟩
end Copyhold.Disk
namespace Go.Proofs.Ytahnkkmngbckdaa
open Go.RowKit Copyhold Copyhold.Disk
theorem newD_ok (many : Int) : OkD (newD many).1 := by
  unfold newD
  split
  · exact okd_new _ (by omega) _ (padL_len _ (by simp))
  · exact okd_empty
theorem i64_of {z : Int} (w : (Lit.int .i64 z).wf = true) : -9223372036854775808 ≤ z ∧ z ≤ 9223372036854775807 := by
  simpa [Lit.wf, IntKind.min, IntKind.max, IntKind.signed, IntKind.bits] using w
theorem image_ok {d : DiskW} (hok : OkD d) : OkD ⟨imageL d, [], false⟩ := by
  have h := doneL_bd hok (lets d.kept.length (fun _ _ => true) 0 d.w) (fun p hp => lets_mem p hp)
  exact ⟨h.1, h.2, fun x hx => (by simp at hx), by simp⟩
theorem crash_ok {d : DiskW} (hok : OkD d) (keep : List Bool) : OkD ⟨crashL d keep, [], false⟩ := by
  have h := doneL_bd hok (lets d.kept.length (keepP keep) 0 d.w) (fun p hp => lets_mem p hp)
  exact ⟨h.1, h.2, fun x hx => (by simp at hx), by simp⟩
theorem flush_ok {d : DiskW} (hok : OkD d) : OkD (flushD d).1 := by
  unfold flushD
  split
  · exact hok
  · exact image_ok hok
theorem write_ok {d : DiskW} (hok : OkD d) (hw : d.w.length ≤ 1000000) (at' : Int) (ha : -9223372036854775808 ≤ at' ∧ at' ≤ 9223372036854775807) (s : List UInt8) : OkD (writeD d at' s).1 := by
  unfold writeD
  split
  · exact hok
  · split
    · exact hok
    · rename_i h
      refine ⟨hok.1, hok.2.1, fun x hx => ?_, by simp; omega⟩
      rcases List.mem_append.1 hx with hx | hx
      · exact hok.2.2.1 x hx
      · simp at hx
        subst hx
        exact ⟨by rw [padL_len s (by omega)]; omega, ha⟩
end Go.Proofs.Ytahnkkmngbckdaa
