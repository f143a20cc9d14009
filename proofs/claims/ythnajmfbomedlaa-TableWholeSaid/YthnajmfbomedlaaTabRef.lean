/- copyholdref14.Few: it answers as the document says; memory is as it was. -/
import Derived.Test.YthnajmfbomedlaaTabOpen
import Derived.Deep.QuietTactic
import Derived.BigQuiet
set_option linter.unusedVariables false
namespace Go.Proofs.Ythnajmfbomedlaa
open Go.RowKit Copyhold

/-- what stands at row k -/
theorem RowsIn.at {w : World} {A : Option Addr} {c : Nat} {rs : List TRow} (h : RowsIn w (.slice A rs.length c) rs) (k : Nat) (hk : k < rs.length) :
    ∃ b off A' c', A = some ⟨b, off, none⟩ ∧ b < w.heap.size ∧ w.cell? ⟨b, off + k * 4, none⟩ = some (.int .i64 rs[k].client) ∧ w.cell? ⟨b, off + k * 4 + 1, none⟩ = some (.int .i64 rs[k].epoch) ∧ w.cell? ⟨b, off + k * 4 + 2, none⟩ = some (.int .i64 rs[k].done) ∧ w.cell? ⟨b, off + k * 4 + 3, none⟩ = some (.slice A' rs[k].l.length c') ∧
      SlOf DecR w 2 (.slice A' rs[k].l.length c') rs[k].l ∧ rs[k].l.length ≤ 8796093022207 ∧ i64ok rs[k].client ∧ i64ok rs[k].epoch ∧ i64ok rs[k].done := by
  obtain ⟨b, off, cs, rfl, hb, hl, ⟨lv, rfl, hsl, hll, h1, h2, h3⟩, hc⟩ := SlOf.at h k (List.getElem?_eq_getElem hk)
  obtain ⟨A', c', rfl⟩ := hsl.shape
  refine ⟨b, off, A', c', rfl, hb, hc 0 _ rfl, ?_, ?_, ?_, hsl, hll, h1, h2, h3⟩
  · have := hc 1 _ rfl; rwa [← Nat.add_assoc] at this
  · have := hc 2 _ rfl; rwa [← Nat.add_assoc] at this
  · have := hc 3 _ rfl; rwa [← Nat.add_assoc] at this

/-- how many rows and decisions there are, of the first k rows -/
def manyK (rs : List TRow) (k : Nat) : Nat := rs.length + ((rs.take k).map (·.l.length)).sum
def fewB (rs : List TRow) : Bool := decide (manyK rs rs.length ≤ 400)

theorem manyK_step (rs : List TRow) (k : Nat) (h : k < rs.length) : manyK rs (k + 1) = manyK rs k + rs[k].l.length := by
  unfold manyK
  rw [List.take_succ_eq_append_getElem h, List.map_append, List.sum_append, Nat.add_assoc]
  rfl
theorem manyK_mono (rs : List TRow) (k : Nat) (h : k ≤ rs.length) : manyK rs k ≤ manyK rs rs.length := by
  have : ∀ j, k + j ≤ rs.length → manyK rs k ≤ manyK rs (k + j) := by
    intro j
    induction j with
    | zero => intro _; exact Nat.le_refl _
    | succ j ih => intro hj; rw [← Nat.add_assoc, manyK_step rs (k + j) (by omega)]; have := ih (by omega); omega
  have h2 := this (rs.length - k) (by omega)
  rwa [show k + (rs.length - k) = rs.length from by omega] at h2

set_option maxHeartbeats 1000000 in
theorem ref14_Few (rs : List TRow) (v : Value) (w : World) (hr : RowsIn w v rs) (hn : rs.length ≤ 8796093022207) :
    Calls Try.prog 11 #[v] w fun e w' => e = .returned (.bool (fewB rs)) ∧ w = w' := by
  obtain ⟨A, c, rfl⟩ := SlOf.shape hr
  have HR := Lib.hid hr
  clear hr
  go_enter Try.func11, Try.ntmps11
  go_wp2_with fail
  go_loop [3, 4] (fun sn si => ∃ k m : Nat, si = .int .i64 k ∧ sn = .int .i64 m ∧ k ≤ rs.length ∧ m = manyK rs k ∧ m ≤ 17592186044416) (fun _ si => rs.length - (intOf si).toNat)
  case atStart => exact ⟨0, rs.length, rfl, rfl, Nat.zero_le _, by simp [manyK], by omega⟩
  case round =>
    obtain ⟨k, m, rfl, rfl, hk, hm, hmb⟩ := hrel
    have HM := Lib.hid hm
    clear hm
    by_cases hlt : k < rs.length
    · by_cases h4 : m ≤ 400
      · obtain ⟨b, off, A', c', rfl, hbk, _, _, _, hc, _, hll, _, _, _⟩ := HR.out.at k hlt
        have hst := manyK_step rs k hlt
        have HST := Lib.hid hst
        clear hst
        generalize rs[k].l.length = n at *
        go_wp2_with fail
        go_round
        case rel => exact ⟨k + 1, m + n, by go_num, by go_num, by omega, by rw [HST.out, HM.out], by omega⟩
        case measure => simp [intOf]; omega
      · have hfin : fewB rs = false := by
          unfold fewB
          have := manyK_mono rs k hk
          have := HM.out
          exact decide_eq_false (by omega)
        have HF := Lib.hid hfin
        have hd : decide ((m : Int) ≤ 400) = false := by simp; omega
        clear hfin
        go_wp2_with fail
        go_ret
        exact ⟨by rw [HF.out]; exact ret_bool (by simp <;> omega), rfl⟩
    · have hfin : fewB rs = decide ((m : Int) ≤ 400) := by
        unfold fewB
        rw [show rs.length = k from by omega, ← HM.out]
        rw [decide_eq_decide]
        omega
      have HF := Lib.hid hfin
      have hd : decide ((k : Int) < rs.length) = false := by simp; omega
      clear hfin
      go_wp2_with fail
      go_ret
      exact ⟨by rw [HF.out]; rfl, rfl⟩
end Go.Proofs.Ythnajmfbomedlaa
