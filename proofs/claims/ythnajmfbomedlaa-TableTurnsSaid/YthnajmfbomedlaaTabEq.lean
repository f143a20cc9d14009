/- slices.Equal of decisions: it answers as the document says; old memory is as it was. -/
import Derived.Test.YthnajmfbomedlaaTabRgt2
import Derived.Test.YthnajmfbomedlaaTabSameR
set_option linter.unusedVariables false
set_option linter.unusedSimpArgs false
namespace Go.Proofs.Ythnajmfbomedlaa
open Go.RowKit Copyhold

set_option maxRecDepth 100000 in
set_option maxHeartbeats 8000000 in
theorem decs_Equal (l1 l2 : List (Int × Bool)) (v u : Value) (w : World) (h1 : SlOf DecR w 2 v l1) (h2 : SlOf DecR w 2 u l2) (n1 : l1.length ≤ 100000) (n2 : l2.length ≤ 100000) :
    Calls Try.prog 39 #[v, u] w fun e w' => e = .returned (.bool (decide (l1 = l2))) ∧ Below w.heap.size w w' := by
  obtain ⟨A, c, rfl⟩ := SlOf.shape h1
  obtain ⟨B, d, rfl⟩ := SlOf.shape h2
  have HS1 := Lib.hid h1
  have HS2 := Lib.hid h2
  clear h1 h2
  by_cases h3 : l1.length = l2.length
  · have hq : ((l1.length : Int) != (l2.length : Int)) = false := by rw [h3]; simp
    have H3 := Lib.hid h3
    clear h3
    go_enter Try.func39, Try.ntmps39
    go_wp2_with fail
    clear hq
    go_loopw [13] (fun sj wj => ∃ j n : Nat, sj = .int .i64 j ∧ j ≤ l1.length ∧ l1.take j = l2.take j ∧ wj = w.drewN n) (fun sj _ => l1.length - (intOf sj).toNat)
    case atStart => exact ⟨0, 0, rfl, Nat.zero_le _, by simp, rfl⟩
    case round =>
      obtain ⟨j, nd, rfl, hj, hp2, rfl⟩ := hrel
      have HP2 := Lib.hid hp2
      clear hp2
      by_cases hjl : j < l1.length
      · have hjl' : j < l2.length := by have := H3.out; omega
        obtain ⟨b3, o3, rfl, hb3, p0, p1, _⟩ := decs_at HS1.out j hjl
        obtain ⟨b4, o4, rfl, hb4, q0, q1, _⟩ := decs_at HS2.out j hjl'
        have hj1 : (j : Int) < (l1.length : Int) := by omega
        have hj2 : (j : Int) < (l2.length : Int) := by omega
        have HST2 := Lib.hid (fun h => take_more HP2.out hjl hjl' h)
        have HNO2 : Hid (l1[j] ≠ l2[j] → decide (l1 = l2) = false) := Lib.hid (fun h => decide_eq_false (getE_ne hjl hjl' h))
        generalize l1[j] = d1 at *
        generalize l2[j] = d2 at *
        obtain ⟨s1, t1⟩ := d1
        obtain ⟨s2, t2⟩ := d2
        simp only at p0 p1 q0 q1
        by_cases g1 : s1 = s2
        · subst g1
          by_cases g2 : t1 = t2
          · subst g2
            have HN := Lib.hid (HST2.out rfl)
            go_wp2_with fail
            go_quiet (fail)
            go_wp2_with fail
            go_roundw
            case rel => exact ⟨j + 1, _, by go_num, by omega, HN.out, (by first | rfl | exact World.drewN_drewN _ _ _)⟩
            case measure => simp [intOf]; omega
          · have HF := Lib.hid (HNO2.out (by simpa using g2))
            have hq : (t1 == t2) = false := by simpa using g2
            clear g2
            go_wp2_with fail
            go_quiet (fail)
            go_wp2_with fail
            go_ret
            exact ⟨by rw [HF.out]; rfl, by rw [World.drewN_drewN]; exact below_dn (Below.refl _ _) _⟩
        · have HF := Lib.hid (HNO2.out (by simp [g1]))
          have hq : (s1 == s2) = false := by simpa using g1
          clear g1
          go_wp2_with fail
          go_quiet (fail)
          go_wp2_with fail
          go_ret
          exact ⟨by rw [HF.out]; rfl, by rw [World.drewN_drewN]; exact below_dn (Below.refl _ _) _⟩
      · obtain rfl : j = l1.length := by omega
        have HF := Lib.hid (show decide (l1 = l2) = true from decide_eq_true (take_all HP2.out (Nat.le_refl _) H3.out))
        go_wp2_with fail
        go_ret
        exact ⟨by rw [HF.out]; rfl, below_dn (Below.refl _ _) _⟩
  · have hq : ((l1.length : Int) != (l2.length : Int)) = true := by rw [bne_iff_ne]; omega
    have HF := Lib.hid (show decide (l1 = l2) = false from decide_eq_false (fun h => h3 (by rw [h])))
    clear h3
    go_enter Try.func39, Try.ntmps39
    go_wp2_with fail
    go_ret
    exact ⟨by rw [HF.out]; rfl, Below.refl _ _⟩

/-- table.Same's own: are two rows the same? -/
def sameRow (r q : TRow) : Bool := decide (r.client = q.client) && (decide (r.epoch = q.epoch) && (decide (r.done = q.done) && decide (r.l = q.l)))
theorem sameRow_iff (r q : TRow) : sameRow r q = true ↔ r = q := by
  obtain ⟨a, b, c, d⟩ := r
  obtain ⟨a', b', c', d'⟩ := q
  simp [sameRow]
end Go.Proofs.Ythnajmfbomedlaa
