/- strings.Cut at a slash, strings.HasPrefix of a slash: they answer as Go says; the world only draws. -/
import Derived.Test.YtjeejnjomgcplaaNameCheck
import Derived.Deep.QuietTactic
import Derived.BigQuiet
import Derived.IntWalk
set_option linter.unusedVariables false
namespace Go.Proofs.Ytjeejnjomgcplaa
open Go.RowKit Copyhold Copyhold.Name
attribute [local go_sem] piece

theorem cut_index (s : List UInt8) : (Lib.indexByte s 47 = -1 ∧ cutAt s = (s, [], false)) ∨ (∃ k : Nat, k < s.length ∧ Lib.indexByte s 47 = k ∧ cutAt s = (s.take k, s.drop (k + 1), true)) := by
  induction s with
  | nil => exact .inl ⟨rfl, rfl⟩
  | cons c l ih =>
    rw [Lib.indexByte, cutAt]
    by_cases h : c = 47
    · subst h
      refine .inr ⟨0, by simp, by simp, by simp⟩
    · have h1 : (c == 47) = false := by simpa using h
      rw [h1, if_neg h]
      rcases ih with ⟨h2, h3⟩ | ⟨k, h0, h2, h3⟩
      · rw [h2, h3]
        exact .inl ⟨by simp, rfl⟩
      · rw [h2, h3]
        have h4 : (((k : Nat) : Int) == -1) = false := by rw [beq_eq_false_iff_ne]; omega
        refine .inr ⟨k + 1, by simpa using h0, ?_, by simp⟩
        rw [h4]
        simp

def cutR (s : List UInt8) : Value := .tuple #[.string ⟨(cutAt s).1.toArray⟩, .string ⟨(cutAt s).2.1.toArray⟩, .bool (cutAt s).2.2]

set_option maxHeartbeats 1000000 in
theorem slite_Cut (s : List UInt8) (w : World) (hs : s.length ≤ 140737488351232) : Calls Try.prog 40 #[.string ⟨s.toArray⟩, .string ⟨#[47]⟩] w fun e w' => e = .returned (cutR s) ∧ ∃ n, w' = w.drewN n := by
  have HI := Lib.hid (slite_Index s 47 w)
  rcases cut_index s with ⟨h1, h2⟩ | ⟨k, h0, h1, h2⟩
  · have HR : Hid (cutR s = .tuple #[.string ⟨s.toArray⟩, .string ⟨#[]⟩, .bool false]) := Lib.hid (by rw [cutR, h2])
    rw [h1] at HI
    clear h1 h2
    go_enter Try.func40, Try.ntmps40
    go_wp2_with fail
    refine HI.out.mono ?_
    rintro e w1 ⟨rfl, rfl⟩
    go_wp2_with fail
    go_ret3
    exact ⟨by rw [HR.out]; rfl, 0, rfl⟩
  · have HR : Hid (cutR s = .tuple #[.string ⟨(s.take k).toArray⟩, .string ⟨(s.drop (k + 1)).toArray⟩, .bool true]) := Lib.hid (by rw [cutR, h2])
    rw [h1] at HI
    clear h1 h2
    have hk0 : (0 : Int) ≤ (k : Int) := by omega
    have hk1 : (k : Int) < (s.length : Int) := by omega
    have hwr : IntKind.i64.wrap ((k : Int) + 1) = (k : Int) + 1 := IntWalk.i64_in _ (by omega)
    have hp0 : (0 : Int) ≤ (k : Int) + 1 := by omega
    have htn : ((k : Int) + 1).toNat = k + 1 := by omega
    have HW := Lib.hid (And.intro hwr htn)
    clear hwr htn
    go_enter Try.func40, Try.ntmps40
    go_wp2_with fail
    refine HI.out.mono ?_
    rintro e w1 ⟨rfl, rfl⟩
    go_wp2_with fail
    obtain ⟨hwr, htn⟩ := HW.out
    go_quiet (fail)
    clear hwr htn
    go_wp2_with fail
    go_ret3
    refine ⟨?_, _, rfl⟩
    rw [HR.out]
    rfl

set_option maxHeartbeats 1000000 in
theorem strings_Cut (s : List UInt8) (w : World) (hs : s.length ≤ 140737488351232) : Calls Try.prog 35 #[.string ⟨s.toArray⟩, .string ⟨#[47]⟩] w fun e w' => e = .returned (cutR s) ∧ ∃ n, w' = w.drewN n := by
  have HC := Lib.hid (slite_Cut s w hs)
  unfold cutR at *
  generalize (⟨(cutAt s).1.toArray⟩ : ByteArray) = x at *
  generalize (⟨(cutAt s).2.1.toArray⟩ : ByteArray) = y at *
  generalize (cutAt s).2.2 = z at *
  go_enter Try.func35, Try.ntmps35
  go_wp2_with fail
  refine HC.out.mono ?_
  rintro e w1 ⟨rfl, n, rfl⟩
  go_wp2_with fail
  go_ret3
  exact ⟨rfl, _, rfl⟩

def slashed (s : List UInt8) : Bool := s.head? == some 47

set_option maxHeartbeats 1000000 in
theorem slite_HasPrefix (s : List UInt8) (w : World) (hs : s.length ≤ 140737488351232) : Calls Try.prog 33 #[.string ⟨s.toArray⟩, .string ⟨#[47]⟩] w fun e w' => e = .returned (.bool (slashed s)) ∧ w = w' := by
  cases s with
  | nil =>
    go_enter Try.func33, Try.ntmps33
    go_wp2_with fail
    go_ret
    exact ⟨rfl, rfl⟩
  | cons a l =>
    have hl : (a :: l).length = l.length + 1 := rfl
    have h2 : (1 : Int) ≤ (l.length : Int) + 1 := by omega
    have hsl : slashed (a :: l) = (a == 47) := by simp [slashed]
    rw [hsl]
    clear hsl hl
    go_enter Try.func33, Try.ntmps33
    go_wp2_with fail
    go_ret
    exact ⟨rfl, rfl⟩

theorem strings_HasPrefix (s : List UInt8) (w : World) (hs : s.length ≤ 140737488351232) : Calls Try.prog 28 #[.string ⟨s.toArray⟩, .string ⟨#[47]⟩] w fun e w' => e = .returned (.bool (slashed s)) ∧ w = w' := by
  have HC := Lib.hid (slite_HasPrefix s w hs)
  generalize slashed s = q at *
  go_enter Try.func28, Try.ntmps28
  go_wp2_with fail
  refine HC.out.mono ?_
  rintro e w1 ⟨rfl, rfl⟩
  go_wp2_with fail
  go_ret
  exact ⟨rfl, rfl⟩
end Go.Proofs.Ytjeejnjomgcplaa
