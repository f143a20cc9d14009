/- copyholdref06.Same: it answers as the document says; old memory is as it was. -/
import Derived.Test.YtoinafcjkbdjnaaNameRight
set_option linter.unusedVariables false
namespace Go.Proofs.Ytoinafcjkbdjnaa
open Go.RowKit Copyhold Copyhold.Name

theorem entElem : Elem Try.prog 22 39 (.agg #[.string ⟨#[]⟩, .int .i64 0]) 2 24 :=
  ⟨Try.underlying22, by kernel_rfl, by kernel_rfl, by decide⟩
theorem textElem : Elem Try.prog 59 9 (.string ⟨#[]⟩) 1 16 :=
  ⟨Try.underlying59, by kernel_rfl, by kernel_rfl, by decide⟩

theorem sl1 (w : World) (x : Value) (t : TypeId) : Sl (w.alloc (.cells #[x] t)) 1 (.slice (some ⟨w.heap.size, 0, none⟩) 1 1) 1 [x] :=
  ⟨_, 1, rfl, Nat.le_refl _, rfl, fun _ => ⟨w.heap.size, 0, rfl, by simp, fun j y hj => by
    rw [Nat.zero_add, cell_new]
    cases j with
    | zero => simpa using hj
    | succ j => simp at hj⟩⟩
theorem slN (w : World) (cs : Array Value) (t : TypeId) : Sl (w.alloc (.cells cs t)) cs.size (.slice (some ⟨w.heap.size, 0, none⟩) 1 1) 1 cs.toList :=
  ⟨_, 1, rfl, Nat.le_refl _, by simp, fun _ => ⟨w.heap.size, 0, rfl, by simp, fun j y hj => by
    rw [Nat.zero_add, cell_new]
    simpa using hj⟩⟩

set_option maxHeartbeats 4000000 in
theorem ref06_Same (a b : List Ent) (A B : Option Addr) (c d : Nat) (w : World) (ha : Ents w (.slice A a.length c) a) (hb : Ents w (.slice B b.length d) b) (hn : a.length ≤ 1000000) (hm : b.length ≤ 1000000) :
    Calls Try.prog 28 #[.slice A a.length c, .slice B b.length d] w fun e w' => e = .returned (.bool (a == b)) ∧ ∃ n, w' = w.drewN n := by
  have HA := Lib.hid ha
  have HB := Lib.hid hb
  clear ha hb
  by_cases hle : a.length = b.length
  · have hl1 : ((a.length : Int) != (b.length : Int)) = false := by rw [hle]; simp
    have HLE := Lib.hid hle
    clear hle
    go_enter Try.func28, Try.ntmps28
    go_wp2_with fail
    go_loopw [5] (fun si wr => ∃ k n : Nat, si = .int .i64 k ∧ k ≤ a.length ∧ a.take k = b.take k ∧ wr = w.drewN n) (fun si _ => a.length - (intOf si).toNat)
    case atStart => exact ⟨0, 0, rfl, Nat.zero_le _, by simp, rfl⟩
    case round =>
      obtain ⟨k, n, rfl, hk, hp, rfl⟩ := hrel
      have HP := Lib.hid hp
      clear hp
      by_cases hlt : k < a.length
      · have hlt' : k < b.length := by have := HLE.out; omega
        obtain ⟨b1, o1, rfl, _, _, c1, c2⟩ := HA.out.at k hlt
        obtain ⟨b2, o2, rfl, _, _, c3, c4⟩ := HB.out.at k hlt'
        have hi1 : (k : Int) < (a.length : Int) := by omega
        have hi2 : (k : Int) < (b.length : Int) := by omega
        have hst : a[k] = b[k] → a.take (k + 1) = b.take (k + 1) := fun h => by
          rw [List.take_succ_eq_append_getElem hlt, List.take_succ_eq_append_getElem hlt', HP.out, h]
        have hno : a[k] ≠ b[k] → (a == b) = false := fun h => by
          rw [beq_eq_false_iff_ne]
          rintro rfl
          exact h rfl
        have HST := Lib.hid hst
        have HNO := Lib.hid hno
        clear hst hno
        generalize a[k] = x at *
        generalize b[k] = y at *
        obtain ⟨x1, x2⟩ := x
        obtain ⟨y1, y2⟩ := y
        simp only at c1 c2 c3 c4
        by_cases h1 : x1 = y1
        · subst h1
          by_cases h2 : x2 = y2
          · subst h2
            have HS := Lib.hid (HST.out rfl)
            go_wp2_with fail
            go_quiet (fail)
            go_wp2_with fail
            go_roundw
            case rel => exact ⟨k + 1, _, by go_num, by omega, HS.out, rfl⟩
            case measure => simp [intOf]; omega
          · have HS := Lib.hid (HNO.out (by simpa using h2))
            have hq : (x2 == y2) = false := by simpa using h2
            clear h2
            go_wp2_with fail
            go_quiet (fail)
            go_wp2_with fail
            go_ret
            exact ⟨by rw [HS.out]; rfl, _, World.drewN_drewN _ _ _⟩
        · have HS := Lib.hid (HNO.out (by simp [h1]))
          have hq : (x1 == y1) = false := by simpa using h1
          clear h1
          go_wp2_with fail
          go_quiet (fail)
          go_wp2_with fail
          go_ret
          exact ⟨by rw [HS.out]; rfl, _, World.drewN_drewN _ _ _⟩
      · have hfin : (a == b) = true := by
          have := HP.out
          rw [List.take_of_length_le (by omega), List.take_of_length_le (by have := HLE.out; omega)] at this
          simpa using this
        have HF := Lib.hid hfin
        clear hfin
        go_wp2_with fail
        go_ret
        exact ⟨by rw [HF.out]; rfl, _, rfl⟩
  · have hl1 : ((a.length : Int) != (b.length : Int)) = true := by rw [bne_iff_ne]; omega
    have hfin : (a == b) = false := by
      rw [beq_eq_false_iff_ne]
      rintro rfl
      exact hle rfl
    have HF := Lib.hid hfin
    clear hfin hle
    go_enter Try.func28, Try.ntmps28
    go_wp2_with fail
    go_ret
    exact ⟨by rw [HF.out]; rfl, 0, rfl⟩

end Go.Proofs.Ytoinafcjkbdjnaa
