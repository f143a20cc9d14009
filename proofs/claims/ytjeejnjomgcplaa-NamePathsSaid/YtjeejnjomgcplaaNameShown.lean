/- copyholdlaw06.shown: it answers true; old memory is as it was. -/
import Derived.Test.YtjeejnjomgcplaaNameRspl
import Derived.Test.YtjeejnjomgcplaaNameEnte2
import Derived.Test.YtjeejnjomgcplaaNameRigh2
set_option linter.unusedVariables false
namespace Go.Proofs.Ytjeejnjomgcplaa
open Go.RowKit Copyhold Copyhold.Name

theorem shown_split : splitD [47, 97, 47, 47, 98, 47, 46] = ([[97], [98]], 0) := by decide

set_option maxHeartbeats 2000000 in
theorem law_shown (w : World) : Calls Try.prog 10 #[] w fun e w' => e = .returned (.bool true) ∧ Below w.heap.size w w' := by
  have HS := Lib.hid (name_Split [47, 97, 47, 47, 98, 47, 46] (by simp) w)
  rw [shown_split] at HS
  have HC := Lib.hid (fun W : World => name_Check [46, 46] W (by simp))
  rw [show checkD [46, 46] = 10 from by decide] at HC
  go_enter Try.func10, Try.ntmps10
  go_wp2_with fail
  refine HS.out.mono ?_
  rintro e w1 ⟨v, rfl, hr, hb1⟩
  obtain ⟨A, c, rfl⟩ := hr.shape
  obtain ⟨b, off, rfl, hbk, hlen, hcl⟩ := hr.at 0 (x := strV [97]) rfl
  have c0 : w1.cell? ⟨b, off, none⟩ = some (.string ⟨#[97]⟩) := hcl 0 _ rfl
  have c1 : w1.cell? ⟨b, off + 1, none⟩ = some (.string ⟨#[98]⟩) := hcl 1 _ rfl
  have HB1 := Lib.hid hb1
  clear hr hcl hb1
  go_wp2_with fail
  refine (HC.out _).mono ?_
  rintro e w2 ⟨rfl, rfl⟩
  go_wp2_with fail
  go_ret
  exact ⟨rfl, HB1.out⟩
end Go.Proofs.Ytjeejnjomgcplaa
