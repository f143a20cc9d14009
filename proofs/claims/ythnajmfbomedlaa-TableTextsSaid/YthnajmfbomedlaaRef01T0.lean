/- copyholdref01.TakeNum, TakeText, TakeList: the document's own answers: what is taken is what takeNum, takeText, takeList say; old memory is as it was. -/
import Derived.Test.YthnajmfbomedlaaRef01N0
import Derived.Test.YthnajmfbomedlaaOctTakeNum
import Derived.Test.YthnajmfbomedlaaPure01c
import Derived.IntWalk
namespace Go.Proofs.Ythnajmfbomedlaa
open Go.RowKit Copyhold
attribute [local go_sem] piece

set_option maxRecDepth 100000 in
set_option maxHeartbeats 2000000 in
theorem ref_TakeNum (l : List UInt8) (w : World) (hl : l.length ≤ 140737488355328) :
    Calls Try.prog 42 #[.string ⟨l.toArray⟩] w fun e w' => e = .returned (.tuple #[.int .u64 (takeNum l).1, .string ⟨(takeNum l).2.1.toArray⟩, .int .i64 (takeNum l).2.2]) ∧ Below w.heap.size w w' := by
  go_enter Try.func42, Try.ntmps42
  go_wp2_with fail
  go_loop [5] (fun si => ∃ i : Nat, i < 10 ∧ TnHead l i ∧ si = .int .i64 i) (fun si => 10 - (intOf si).toNat)
  case atStart => exact ⟨0, by decide, tnHead_zero l, rfl⟩
  case round =>
    obtain ⟨i, hi10, hh, rfl⟩ := hrel
    have hil := hh.1
    have HH := Lib.hid hh
    clear hh
    by_cases hin : i < l.length
    · have hbb : l[i].toNat < 256 := l[i].toNat_lt
      have hbi : (⟨l.toArray⟩ : ByteArray)[i]'(by simpa [ByteArray.size] using hin) = l[i] := rfl
      by_cases hb : l[i].toNat < 128
      · have HE := Lib.hid (tnHead_last HH.out hin hi10 hb)
        go_wp2_with fail
        clear hbi hbb hb HH
        go_loop [6, 7] (fun sn sk => ∃ (j : Nat) (z : Int), j ≤ i + 1 ∧ 0 ≤ z ∧ z ≤ 18446744073709551615 ∧ z = ((valB ((l.take (i + 1)).drop j) % 18446744073709551616 : Nat) : Int) ∧ sk = .int .i64 ((j : Int) - 1) ∧ sn = .int .u64 z) (fun _ sk => (intOf sk + 1).toNat)
        case atStart => exact ⟨i + 1, 0, Nat.le_refl _, by omega, by omega, by rw [List.drop_eq_nil_of_le (by rw [List.length_take]; omega)]; rfl, by go_num, rfl⟩
        case round =>
          obtain ⟨j, z, hj, hz0, hz1, hz, rfl, rfl⟩ := hrel
          have HZ := Lib.hid hz
          clear hz
          by_cases hj0 : 0 < j
          · obtain ⟨k, rfl⟩ : ∃ k, j = k + 1 := ⟨j - 1, by omega⟩
            have hkl : k < l.length := by omega
            have hbk : (⟨l.toArray⟩ : ByteArray)[k]'(by simpa [ByteArray.size] using hkl) = l[k] := rfl
            have hbb : l[k].toNat < 256 := l[k].toNat_lt
            have HS := Lib.hid (valB_seg l i k (by omega) hin)
            have hk1 : ((k + 1 : Nat) : Int) - 1 = (k : Int) := by omega
            rw [hk1]
            clear hk1
            generalize l[k] = b at *
            go_wp2_with fail
            have hs := HS.out
            have hz := HZ.out
            exact ⟨⟨k, _, by omega, by rw [wrap_u64']; omega, by rw [wrap_u64']; omega, by rw [wrap_u64', wrap_u64', hs, hz]; first | done | omega, rfl, rfl⟩, by simp [intOf] <;> omega⟩
          · obtain rfl : j = 0 := by omega
            have hz := HZ.out
            rw [List.drop_zero] at hz
            clear HZ
            have hzn : z.toNat = valB (l.take (i + 1)) % 18446744073709551616 := by rw [hz, Int.toNat_natCast]
            have e1 : IntKind.i64.wrap ((i : Int) + 1) = (i : Int) + 1 := IntWalk.i64_in _ (by omega)
            have e2 : ((i : Int) + 1).toNat = i + 1 := by omega
            have e3 : (0 : Int) ≤ (i : Int) + 1 := by omega
            have e4 : (i : Int) + 1 ≤ (l.length : Int) := by omega
            have e5 : i + 1 ≤ l.length := by omega
            rcases HE.out with ⟨hbad, hne⟩ | ⟨hgood, heq, hlt⟩
            · rw [← hzn] at hne
              have hq : (numB z.toNat == l.take (i + 1)) = false := by simpa using hne
              have HB := Lib.hid hbad
              clear hbad hne hz hzn HE
              go_wp2_with fail
              go_region_with (go_at_call 47; refine (ref_Num _ _ hz0 hz1).mono ?_; rintro e w1 ⟨rfl, hb1⟩)
              all_goals
                clear e1 e2
                go_wp2_with fail
                go_ret3
                exact ⟨by rw [HB.out]; rfl, (Below.refl _ _).drew.trans hb1⟩
            · rw [← hzn] at heq
              have hzz : z = ((valB (l.take (i + 1)) : Nat) : Int) := by rw [hz, Nat.mod_eq_of_lt hlt]
              have HZ := Lib.hid hzz
              have HG := Lib.hid hgood
              clear hgood hz hzn HE hzz hlt
              go_wp2_with fail
              go_region_with (go_at_call 47; refine (ref_Num _ _ hz0 hz1).mono ?_; rintro e w1 ⟨rfl, hb1⟩)
              all_goals
                go_wp2_with fail
                go_quiet (fail)
                clear e1 e2
                go_wp2_with fail
                go_ret3
                exact ⟨by rw [HG.out]; exact ret3 (congrArg _ HZ.out) rfl rfl, below_drewN ((Below.refl _ _).drew.trans hb1) _⟩
      · have HE := Lib.hid (tnHead_succ HH.out hin hi10 hb)
        by_cases h9 : i = 9
        · have HT := Lib.hid (tnHead_ten (l := l) (by have h := HE.out; rwa [h9] at h))
          clear HE HH
          subst h9
          go_wp2_with fail
          go_ret3
          exact ⟨by rw [HT.out]; rfl, Below.refl _ _⟩
        · have h10 : i < 9 := by omega
          clear h9
          go_wp2_with fail
          exact ⟨⟨i + 1, by omega, HE.out, by go_num⟩, by simp [intOf]; omega⟩
    · have HE := Lib.hid (tnHead_end HH.out (by omega) hi10)
      go_wp2_with fail
      go_ret3
      exact ⟨by rw [HE.out]; rfl, Below.refl _ _⟩

end Go.Proofs.Ythnajmfbomedlaa
