/- disk.pad, disk.there, disk.refused, copyholdref04.filled: they answer as the document says; old memory is as it was. -/
import Derived.Test.YtahnkkmngbckdaaShelf
import Derived.Test.YtahnkkmngbckdaaDiskMem
import Derived.Test.YtahnkkmngbckdaaTaking
set_option linter.unusedVariables false
namespace Go.Proofs.Ytahnkkmngbckdaa
open Go.RowKit Copyhold Copyhold.Disk

theorem repeat_zero (n : Nat) : Lib.repeatL [0] n = List.replicate n (0 : UInt8) := by
  induction n with
  | zero => rfl
  | succ n ih => simp only [Lib.repeatL] at *; simp [ih, List.replicate_succ]

set_option maxHeartbeats 1000000 in
theorem disk_pad (s : List UInt8) (w : World) (h : s.length ≤ 64) :
    Calls Try.prog 29 #[.string ⟨s.toArray⟩] w fun e w' => e = .returned (.string ⟨(padL s).toArray⟩) ∧ Below w.heap.size w w' := by
  have hc : ((64 : Int) - (s.length : Int)) = ((64 - s.length : Nat) : Int) := by omega
  have HR := Lib.hid (fun W => Try.strings_Repeat ⟨#[0]⟩ (64 - s.length) W (by omega) (by simp [ByteArray.size]; omega))
  have hl : (Lib.repeatL [0] (64 - s.length)).length ≤ 64 := by rw [repeat_zero]; simp
  have hq : ¬ 9223372036854775807 < s.length + (Lib.repeatL [0] (64 - s.length)).length := by omega
  have hp : padL s = s ++ Lib.repeatL [0] (64 - s.length) := by rw [repeat_zero]; rfl
  have HP := Lib.hid hp
  have HC := Lib.hid hc
  clear hp hc
  go_enter Try.func29, Try.ntmps29
  go_wp2_with fail
  rw [HC.out]
  refine (HR.out _).mono ?_
  rintro e w1 ⟨rfl, hb⟩
  generalize Lib.repeatL [0] (64 - s.length) = z at *
  go_wp2_with fail
  go_ret
  exact ⟨by rw [HP.out]; rfl, hb⟩

theorem disk_there (A B : Option Addr) (n m c d : Nat) (off : Bool) (i : Int) (w : World) (hn : n ≤ 8796093022208) :
    Calls Try.prog 31 #[.agg #[.slice A n c, .slice B m d, .bool off], .int .i64 i] w fun e w' => e = .returned (.bool (thereB n i)) ∧ w' = w.alloc (.cells #[.slice A n c, .slice B m d, .bool off] 25) := by
  by_cases h0 : 0 ≤ i
  · by_cases h1 : i < n
    · have ht : thereB n i = true := (thereB_iff _ _).2 ⟨h0, h1⟩
      have HT := Lib.hid ht
      clear ht
      go_enter Try.func31, Try.ntmps31
      go_wp2_with fail
      go_ret
      exact ⟨by rw [HT.out]; rfl, rfl⟩
    · have ht : thereB n i = false := by unfold thereB; simp; omega
      have HT := Lib.hid ht
      clear ht
      go_enter Try.func31, Try.ntmps31
      go_wp2_with fail
      go_ret
      exact ⟨by rw [HT.out]; rfl, rfl⟩
  · have ht : thereB n i = false := by unfold thereB; simp; omega
    have HT := Lib.hid ht
    clear ht
    go_enter Try.func31, Try.ntmps31
    go_wp2_with fail
    go_ret
    exact ⟨by rw [HT.out]; rfl, rfl⟩

/-- why a sector can't be read or written -/
def refusedD (n : Nat) (off : Bool) (i : Int) : Int := if off then 19 else if thereB n i then 0 else 6

theorem disk_refused (A B : Option Addr) (n m c d : Nat) (off : Bool) (i : Int) (w : World) (hn : n ≤ 8796093022208) :
    Calls Try.prog 32 #[.agg #[.slice A n c, .slice B m d, .bool off], .int .i64 i] w fun e w' => e = .returned (.int .i64 (refusedD n off i)) ∧ Below w.heap.size w w' := by
  cases off with
  | true =>
    go_enter Try.func32, Try.ntmps32
    go_wp2_with fail
    go_ret
    exact ⟨rfl, (Below.refl _ _).alloc (Nat.le_refl _) _⟩
  | false =>
    have HTH := Lib.hid (fun W => disk_there A B n m c d false i W hn)
    cases ht : thereB n i with
    | true =>
      have HT := Lib.hid ht
      clear ht
      go_enter Try.func32, Try.ntmps32
      go_wp2_with fail
      refine (HTH.out _).mono ?_
      rintro e w1 ⟨rfl, rfl⟩
      rw [HT.out]
      go_wp2_with fail
      go_ret
      exact ⟨by unfold refusedD; rw [HT.out]; rfl, ((Below.refl _ _).alloc (Nat.le_refl _) _).alloc (by simp) _⟩
    | false =>
      have HT := Lib.hid ht
      clear ht
      go_enter Try.func32, Try.ntmps32
      go_wp2_with fail
      refine (HTH.out _).mono ?_
      rintro e w1 ⟨rfl, rfl⟩
      rw [HT.out]
      go_wp2_with fail
      go_ret
      exact ⟨by unfold refusedD; rw [HT.out]; rfl, ((Below.refl _ _).alloc (Nat.le_refl _) _).alloc (by simp) _⟩

set_option maxHeartbeats 1000000 in
theorem ref04_filled (s : List UInt8) (w : World) (h : s.length ≤ 64) :
    Calls Try.prog 30 #[.string ⟨s.toArray⟩] w fun e w' => e = .returned (.string ⟨(padL s).toArray⟩) ∧ w' = w := by
  go_enter Try.func30, Try.ntmps30
  go_wp2_with fail
  go_loop [0] (fun v => ∃ k : Nat, s.length + k ≤ 64 ∧ v = .string ⟨(s ++ List.replicate k 0).toArray⟩) (fun v => 64 - (match v with | .string b => b.size | _ => 0))
  case atStart => exact ⟨0, by omega, by simp⟩
  case round =>
    obtain ⟨k, hk, rfl⟩ := hrel
    have hl : (s ++ List.replicate k (0 : UInt8)).length = s.length + k := by simp
    have hst : s ++ List.replicate (k + 1) (0 : UInt8) = (s ++ List.replicate k 0) ++ [0] := by rw [List.replicate_succ', List.append_assoc]
    have HST := Lib.hid hst
    have HL := Lib.hid hl
    by_cases hlt : s.length + k < 64
    · have hl1 : (s ++ List.replicate k (0 : UInt8)).length < 64 := by omega
      have h1 : (⟨#[0]⟩ : ByteArray) = ⟨([0] : List UInt8).toArray⟩ := rfl
      generalize hz : s ++ List.replicate k (0 : UInt8) = z at *
      have hq : ¬ 9223372036854775807 < z.length + ([0] : List UInt8).length := by simp; omega
      clear hl hst
      rw [h1]
      go_wp2_with fail
      go_round
      case rel => exact ⟨k + 1, by omega, by rw [HST.out]⟩
      case measure => simp [ByteArray.size]; omega
    · have hfin : padL s = s ++ List.replicate k 0 := by unfold padL; rw [show 64 - s.length = k from by omega]
      have HF := Lib.hid hfin
      have hl1 : ¬ (s ++ List.replicate k (0 : UInt8)).length < 64 := by omega
      generalize hz : s ++ List.replicate k (0 : UInt8) = z at *
      clear hl hst hfin
      go_wp2_with fail
      go_ret
      exact ⟨by rw [HF.out]; rfl, rfl⟩
end Go.Proofs.Ytahnkkmngbckdaa
