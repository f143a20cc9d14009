/- table.Right: it answers as the document says; old memory is as it was. -/
import Derived.Test.YthnajmfbomedlaaTabRgt
set_option linter.unusedVariables false
set_option linter.unusedSimpArgs false
namespace Go.Proofs.Ythnajmfbomedlaa
open Go.RowKit Copyhold

set_option maxRecDepth 100000 in
set_option maxHeartbeats 8000000 in
theorem table_Right (rs : List TRow) (v : Value) (w : World) (hr : RowsIn w v rs) (hn : rs.length ≤ 100000) (hl : ∀ r ∈ rs, r.l.length ≤ 100000) :
    Calls Try.prog 13 #[v] w fun e w' => e = .returned (.bool (goodB rs)) ∧ Below w.heap.size w w' := by
  obtain ⟨A, c, rfl⟩ := SlOf.shape hr
  have HR := Lib.hid hr
  have HL := Lib.hid hl
  clear hr hl
  rw [good_b]
  by_cases h64 : rs.length ≤ 64
  · have hF : (decide (rs.length ≤ 64) && allB (-1) rs) = allB (-1) rs := by rw [decide_eq_true h64, Bool.true_and]
    have h64' : (rs.length : Int) ≤ 64 := by omega
    rw [hF]
    clear hF
    go_enter Try.func13, Try.ntmps13
    go_wp2_with fail
    go_loopw [3, 11] (fun sm si wr => ∃ (k : Nat) (m : Int), si = .int .i64 k ∧ sm = .int .i64 m ∧ k ≤ rs.length ∧ -9223372036854775808 ≤ m ∧ m ≤ 9223372036854775807 ∧ allB (-1) rs = allB m (rs.drop k) ∧ Below w.heap.size w wr) (fun _ si _ => rs.length - (intOf si).toNat)
    case atStart => exact ⟨0, -1, rfl, rfl, Nat.zero_le _, by decide, by decide, rfl, Below.refl _ _⟩
    case round =>
      obtain ⟨k, m, rfl, rfl, hk, m1, m2, hup, hb⟩ := hrel
      have HU := Lib.hid (And.intro hup hb)
      have hbs := hb.size
      clear hup hb
      by_cases hkl : k < rs.length
      · obtain ⟨b, off, A', c', rfl, hbk, k0, k1, k2, k3, hsl, hll, ⟨o1, o2⟩, p1, p2⟩ := (HR.out.below HU.out.2).at k hkl
        have hki : (k : Int) < (rs.length : Int) := by omega
        have hlr := HL.out _ (List.getElem_mem hkl)
        have hst : allB m (rs.drop k) = (decide (m < rs[k].client) && (rowB rs[k] && allB rs[k].client (rs.drop (k + 1)))) := by
          rw [List.drop_eq_getElem_cons hkl, allB]
        generalize rs[k] = r at *
        obtain ⟨W3, hW3⟩ : ∃ W3, W3 = wr.alloc (.cells #[.int .i64 r.client, .int .i64 r.epoch, .int .i64 r.done, .slice A' r.l.length c'] 63) := ⟨_, rfl⟩
        have hb3 : Below wr.heap.size wr W3 := by rw [hW3]; exact (Below.refl _ _).alloc (Nat.le_refl _) _
        have HB3 := Lib.hid (below_trans HU.out.2 hb3 hbs)
        have HT3 := Lib.hid (show TBox W3 wr.heap.size 63 #[.int .i64 r.client, .int .i64 r.epoch, .int .i64 r.done, .slice A' r.l.length c'] from by rw [hW3]; exact TBox.new _ _ _)
        have HC := Lib.hid (table_rightRow r A' c' W3 (hsl.below hb3) hlr ⟨p1, p2⟩)
        have HW3 := Lib.hid hW3
        clear hW3 hb3 hsl hll p1 p2
        by_cases hx : r.client ≤ m
        · have HF := Lib.hid (show allB (-1) rs = false from by rw [HU.out.1, hst, decide_eq_false (by omega), Bool.false_and])
          clear hst
          generalize r.client = x at *
          go_wp2_with fail
          rw [← HW3.out]
          go_ret
          exact ⟨by rw [HF.out]; rfl, HB3.out⟩
        · have hst2 : allB (-1) rs = (rowB r && allB r.client (rs.drop (k + 1))) := by rw [HU.out.1, hst, decide_eq_true (by omega), Bool.true_and]
          have HST := Lib.hid hst2
          clear hst hst2
          go_wp2_with fail
          rw [← HW3.out]
          refine HC.out.mono ?_
          rintro e w4 ⟨rfl, hb4⟩
          have q0 : w4.cell? ⟨wr.heap.size, 0, none⟩ = some (.int .i64 r.client) := (HT3.out.below hb4).cell 0
          have HB4 := Lib.hid (below_trans HB3.out hb4 HB3.out.size)
          clear hb4
          by_cases hrow : rowB r = true
          · rw [hrow]
            have HN := Lib.hid (show allB (-1) rs = allB r.client (rs.drop (k + 1)) from by rw [HST.out, hrow, Bool.true_and])
            clear hrow
            go_wp2_with fail
            go_roundw
            case rel => exact ⟨k + 1, r.client, by go_num, rfl, by omega, o1, o2, HN.out, HB4.out⟩
            case measure => simp [intOf]; omega
          · have hrow' : rowB r = false := by simpa using hrow
            rw [hrow']
            have HF := Lib.hid (show allB (-1) rs = false from by rw [HST.out, hrow', Bool.false_and])
            clear hrow hrow'
            go_wp2_with fail
            go_ret
            exact ⟨by rw [HF.out]; rfl, HB4.out⟩
      · have HF := Lib.hid (show allB (-1) rs = true from by rw [HU.out.1, List.drop_eq_nil_of_le (by omega)]; rfl)
        go_wp2_with fail
        go_ret
        exact ⟨by rw [HF.out]; rfl, HU.out.2⟩
  · have hF : (decide (rs.length ≤ 64) && allB (-1) rs) = false := by rw [decide_eq_false h64, Bool.false_and]
    have h64' : (64 : Int) < (rs.length : Int) := by omega
    rw [hF]
    go_enter Try.func13, Try.ntmps13
    go_wp2_with fail
    go_ret
    exact ⟨rfl, Below.refl _ _⟩
end Go.Proofs.Ythnajmfbomedlaa
