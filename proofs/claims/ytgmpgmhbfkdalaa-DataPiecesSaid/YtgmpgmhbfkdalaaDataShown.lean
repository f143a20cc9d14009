/- The statements' 'shown': it answers true; old memory is as it was. -/
import Derived.Test.YtgmpgmhbfkdalaaUnlike
namespace Go.Proofs.Ytgmpgmhbfkdalaa
open Go.RowKit Copyhold

theorem fl_two : fl 2 = 4611686018427387904 := by decide +kernel
theorem shown_write : writeD [97, 98, 99] 5 [120] = ([97, 98, 99, 0, 0, 120], 0) := by decide +kernel
theorem shown_unlike : unlikeD [97, 98, 99, 100] [97, 88, 88, 100] = [(1, 2)] := by decide +kernel

set_option maxHeartbeats 1000000 in
theorem law_shown (w : World) : Calls Try.prog 10 #[] w fun e w' => e = .returned (.bool true) ∧ Below w.heap.size w w' := by
  have ho1 : FloatKind.f64.format.order 4607182418800017408 4607182418800017408 = some .eq := by decide +kernel
  have ho2 : FloatKind.f64.format.order 4611686018427387904 4611686018427387904 = some .eq := by decide +kernel
  go_enter Try.func10, Try.ntmps10
  go_wp2_with fail
  refine (data_Write [97, 98, 99] 5 [120] _ (by decide) (by decide) (by decide) (by decide)).mono ?_
  rintro e w1 ⟨rfl, hb1⟩
  have hs1 := hb1.size
  rw [shown_write]
  go_wp2_with fail
  refine (data_Unlike [97, 98, 99, 100] [97, 88, 88, 100] _ (by decide) (by decide)).mono ?_
  rintro e w2 ⟨v, rfl, hown, hb2⟩
  rw [shown_unlike] at hown
  have hown : w2.ownsRow w1.heap.size 57 1 v 1 [.complex .f64 (fl 1) (fl 2)] := hown
  rw [fl_one, fl_two] at hown
  have hshape : ∃ g cap, v = .slice (some ⟨g, 0, none⟩) 1 cap := by
    rcases hown.2 with ⟨_, h0⟩ | ⟨g, cap, cur, rfl, hg, _⟩
    · simp at h0
    · exact ⟨g, cap, rfl⟩
  obtain ⟨g, cap, rfl⟩ := hshape
  have hcell : w2.cell? ⟨g, 0, none⟩ = some (.complex .f64 4607182418800017408 4611686018427387904) := by
    rw [hown.cellAt 0 (by simp)]
    simp
  have hb := hb1.trans (hb2.mono hs1)
  have HB := Lib.hid hb
  clear hown hb hb2
  go_wp2_with fail
  go_ret
  exact ⟨rfl, HB.out⟩
end Go.Proofs.Ytgmpgmhbfkdalaa
