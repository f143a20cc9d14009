/- copyholdlaw14.shown: the document's example holds; old memory is as it was. -/
import Derived.Test.YthnajmfbomedlaaTabDo2
set_option linter.unusedVariables false
set_option linter.unusedSimpArgs false
namespace Go.Proofs.Ythnajmfbomedlaa
open Go.RowKit Copyhold

theorem shown_dec : decideF [] 1 1 3 true = ([⟨1, 1, 0, [(3, true)]⟩], true, 0) := by
  simp [decideF, askF, ownF, placeN, fullF, changeF, putD, insD]
theorem shown_ask : askF [⟨1, 1, 0, [(3, true)]⟩] 1 1 3 = (true, 0) := by
  simp [askF, ownF, placeN]
theorem shown_for : forgetF [⟨1, 1, 0, [(3, true)]⟩] 1 1 3 = ([⟨1, 1, 3, []⟩], 0) := by
  simp [forgetF, ownF, placeN, changeF, cutD, above]
  omega
theorem shown_ask2 : askF [⟨1, 1, 3, []⟩] 1 1 3 = (false, 18) := by
  simp [askF, ownF, placeN]

set_option maxRecDepth 100000 in
set_option maxHeartbeats 4000000 in
theorem law_shown (w : World) : Calls Try.prog 10 #[] w fun e w' => e = .returned (.bool true) ∧ Below w.heap.size w w' := by
  have HD := Lib.hid (table_Decide [] (.slice none 0 0) 1 1 3 true w ⟨[], Sl.nil _ _, rfl, fun i cs a hc => by simp at hc⟩ (by simp) (fun r h => by cases h) (by decide) (by decide) (by decide) (by decide) (by decide) (by decide))
  rw [shown_dec] at HD
  have HA := Lib.hid (fun W v (h : RowsIn W v [⟨1, 1, 0, [(3, true)]⟩]) => table_Ask [⟨1, 1, 0, [(3, true)]⟩] v 1 1 3 W h (by simp) (by decide) (by decide) (by decide) (by decide) (by decide) (by decide))
  rw [shown_ask] at HA
  have HF := Lib.hid (fun W v (h : RowsIn W v [⟨1, 1, 0, [(3, true)]⟩]) => table_Forget [⟨1, 1, 0, [(3, true)]⟩] v 1 1 3 W h (by simp) (fun r h => by rw [List.mem_singleton.1 h]; simp) (by decide) (by decide) (by decide) (by decide) (by decide) (by decide))
  rw [shown_for] at HF
  have HA2 := Lib.hid (fun W v (h : RowsIn W v [⟨1, 1, 3, []⟩]) => table_Ask [⟨1, 1, 3, []⟩] v 1 1 3 W h (by simp) (by decide) (by decide) (by decide) (by decide) (by decide) (by decide))
  rw [shown_ask2] at HA2
  go_enter Try.func10, Try.ntmps10
  go_wp2_with fail
  refine HD.out.mono ?_
  rintro e w1 ⟨A1, c1, rfl, hr1, hb1⟩
  have HR1 := Lib.hid hr1
  have HB1 := Lib.hid hb1
  clear hr1 hb1
  go_wp2_with fail
  refine (HA.out _ _ HR1.out).mono ?_
  rintro e w2 ⟨rfl, hb2⟩
  have HR2 := Lib.hid (HR1.out.below hb2)
  have HB2 := Lib.hid (below_trans HB1.out hb2 HB1.out.size)
  clear hb2
  go_wp2_with fail
  refine (HF.out _ _ HR2.out).mono ?_
  rintro e w3 ⟨A3, c3, rfl, hr3, hb3⟩
  have HR3 := Lib.hid hr3
  have HB3 := Lib.hid (below_trans HB2.out hb3 HB2.out.size)
  clear hr3 hb3
  go_wp2_with fail
  refine (HA2.out _ _ HR3.out).mono ?_
  rintro e w4 ⟨rfl, hb4⟩
  have HB4 := Lib.hid (below_trans HB3.out hb4 HB3.out.size)
  clear hb4
  go_wp2_with fail
  go_ret
  exact ⟨rfl, HB4.out⟩
end Go.Proofs.Ythnajmfbomedlaa
