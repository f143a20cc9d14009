/- copyholdref06.Check: it answers as the document says; memory is as it was. -/
import Derived.Test.YtoinafcjkbdjnaaNameCheck
set_option linter.unusedVariables false
namespace Go.Proofs.Ytoinafcjkbdjnaa
open Go.RowKit Copyhold Copyhold.Name

set_option maxHeartbeats 1000000 in
theorem ref06_Check (s : List UInt8) (w : World) (hs : s.length ≤ 140737488351232) : Calls Try.prog 45 #[.string ⟨s.toArray⟩] w fun e w' => e = .returned (.int .i64 (checkD s)) ∧ w = w' := by
  by_cases h0 : s = []
  · subst h0
    go_enter Try.func45, Try.ntmps45
    go_wp2_with fail
    go_ret
    exact ⟨rfl, rfl⟩
  by_cases h1 : s = [46]
  · subst h1
    go_enter Try.func45, Try.ntmps45
    go_wp2_with fail
    go_ret
    exact ⟨rfl, rfl⟩
  by_cases h2 : s = [46, 46]
  · subst h2
    go_enter Try.func45, Try.ntmps45
    go_wp2_with fail
    go_ret
    exact ⟨rfl, rfl⟩
  have e0 : (s == []) = false := by simpa using h0
  have e1 : (s == [46]) = false := by simpa using h1
  have e2 : (s == [46, 46]) = false := by simpa using h2
  have hpos : 0 < s.length := by cases s with
    | nil => exact absurd rfl h0
    | cons a l => simp
  by_cases h3 : s.length ≤ 32
  · have hcd : checkD s = if s.all (fun c => !(c == 47) && !(c == 0)) then 0 else 10 := by
      have : s.all (fun c => !(c == 47) && !(c == 0)) = (!s.contains 47 && !s.contains 0) := by
        clear e0 e1 e2 h0 h1 h2 h3 hpos hs
        induction s with
        | nil => rfl
        | cons a l ih =>
          rw [List.all_cons, ih, List.contains_cons, List.contains_cons, BEq.comm (a := (47 : UInt8)), BEq.comm (a := (0 : UInt8))]
          cases (a == 47) <;> cases (a == 0) <;> cases l.contains 47 <;> cases l.contains 0 <;> rfl
      rw [this]
      simp [checkD, okN, h3, e0, e1, e2]
    have HCD := Lib.hid hcd
    have g1 : decide ((s.length : Int) < 1) = false := by simp; omega
    have g2 : decide (32 < (s.length : Int)) = false := by simp; omega
    clear hcd h0 h1 h2
    go_enter Try.func45, Try.ntmps45
    go_wp2_with fail
    go_loop [3] (fun si => ∃ k : Nat, si = .int .i64 k ∧ k ≤ s.length ∧ (s.take k).all (fun c => !(c == 47) && !(c == 0)) = true) (fun si => s.length - (intOf si).toNat)
    case atStart => exact ⟨0, rfl, Nat.zero_le _, by simp⟩
    case round =>
      obtain ⟨k, rfl, hk, hp⟩ := hrel
      have HP := Lib.hid hp
      clear hp g1 g2 e0 e1 e2
      by_cases hlt : k < s.length
      · have hstep : (s.take (k + 1)).all (fun c => !(c == 47) && !(c == 0)) = ((s.take k).all (fun c => !(c == 47) && !(c == 0)) && (!(s[k] == 47) && !(s[k] == 0))) := by
          rw [List.take_succ_eq_append_getElem hlt, List.all_append]
          simp
        rw [HP.out, Bool.true_and] at hstep
        have hbad : (!(s[k] == 47) && !(s[k] == 0)) = false → checkD s = 10 := fun h => by
          rw [HCD.out, if_neg]
          rw [List.all_eq_true]
          intro hall
          rw [hall _ (List.getElem_mem hlt)] at h
          cases h
        have HST := Lib.hid hstep
        have HBAD := Lib.hid hbad
        have hlt2 : k < (⟨s.toArray⟩ : ByteArray).size := by simpa [ByteArray.size] using hlt
        have hx : (((⟨s.toArray⟩ : ByteArray)[k]'hlt2).toNat : Int) = (s[k].toNat : Int) := rfl
        clear hstep hbad
        generalize s[k] = c at *
        have hc0 : (c.toNat : Int) = 0 ↔ c = 0 := by
          constructor
          · intro h; exact UInt8.toNat_inj.1 (by simpa using h)
          · rintro rfl; rfl
        have hc47 : (c.toNat : Int) = 47 ↔ c = 47 := by
          constructor
          · intro h; exact UInt8.toNat_inj.1 (by have : (47 : UInt8).toNat = 47 := rfl; omega)
          · rintro rfl; rfl
        by_cases c1 : c = 47
        · have HR := Lib.hid (HBAD.out (by subst c1; rfl))
          have hx2 := hx.trans (hc47.2 c1)
          clear hc0 hc47 hx c1
          go_wp2_with fail
          go_ret
          exact ⟨by rw [HR.out]; rfl, rfl⟩
        · by_cases c2 : c = 0
          · have HR := Lib.hid (HBAD.out (by subst c2; rfl))
            have hx2 := hx.trans (hc0.2 c2)
            clear hc0 hc47 hx c1 c2
            go_wp2_with fail
            go_ret
            exact ⟨by rw [HR.out]; rfl, rfl⟩
          · have n1 : ((c.toNat : Int) == 47) = false := by rw [beq_eq_false_iff_ne]; exact fun h => c1 (hc47.1 h)
            have n2 : ((c.toNat : Int) == 0) = false := by rw [beq_eq_false_iff_ne]; exact fun h => c2 (hc0.1 h)
            have hn1 : (!(c == 47) && !(c == 0)) = true := by simp [c1, c2]
            have HN := Lib.hid (HST.out.trans hn1)
            clear hc0 hc47 c1 c2 hn1
            generalize (c.toNat : Int) = x at *
            go_wp2_with fail
            go_round
            case rel => exact ⟨k + 1, by go_num, by omega, HN.out⟩
            case measure => simp [intOf]; omega
      · go_wp2_with fail
        go_ret
        exact ⟨by rw [HCD.out, if_pos (by have := HP.out; rwa [List.take_of_length_le (by omega)] at this)]; rfl, rfl⟩
  · have hcd : checkD s = 10 := by
      have : decide (s.length ≤ 32) = false := by simpa using h3
      simp [checkD, okN, this]
    rw [hcd]
    have g1 : decide ((s.length : Int) < 1) = false := by simp; omega
    have g2 : decide (32 < (s.length : Int)) = true := by simp; omega
    clear hcd h0 h1 h2
    go_enter Try.func45, Try.ntmps45
    go_wp2_with fail
    go_ret
    exact ⟨rfl, rfl⟩
end Go.Proofs.Ytoinafcjkbdjnaa
