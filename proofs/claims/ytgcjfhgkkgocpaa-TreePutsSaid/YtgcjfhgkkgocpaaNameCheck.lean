/- strings.Contains of one byte, name.Check, copyholdref06.Check: they answer as the document says; memory is as it was. -/
import Derived.Test.YtgcjfhgkkgocpaaNameMem
import Derived.Test.YtgcjfhgkkgocpaaNameS
import Derived.Laws.Externs
import Derived.Lib.Bytealg
set_option linter.unusedVariables false
namespace Go.Proofs.Ytgcjfhgkkgocpaa
open Go.RowKit Copyhold Copyhold.Name
theorem run_indexByte (s : List UInt8) (c : UInt8) (W : World) : (callFunc 81 #[.string ⟨s.toArray⟩, .int .u8 (c.toNat : Int)]).run Try.prog W = .ok (.value (.int .i64 (Lib.indexByte s c))) W := by
  rw [run_callFunc_extern (e := Extern.BytealgIndexByte.indexByte) Try.func81 (by kernel_rfl) (by kernel_rfl) (by kernel_rfl) (by kernel_rfl), Lib.run_indexByteString]
  simp
theorem slite_IndexByte (s : List UInt8) (c : UInt8) (w : World) : Calls Try.prog 77 #[.string ⟨s.toArray⟩, .int .u8 (c.toNat : Int)] w fun e w' => e = .returned (.int .i64 (Lib.indexByte s c)) ∧ w = w' := by
  have hr := run_indexByte s c
  go_enter Try.func77, Try.ntmps77
  go_wp2_with fail
  go_ret
  exact ⟨rfl, rfl⟩
theorem slite_Index (s : List UInt8) (c : UInt8) (w : World) : Calls Try.prog 76 #[.string ⟨s.toArray⟩, .string ⟨#[c]⟩] w fun e w' => e = .returned (.int .i64 (Lib.indexByte s c)) ∧ w = w' := by
  by_cases he : s = [c]
  · subst he
    rw [show Lib.indexByte [c] c = 0 from by simp [Lib.indexByte]]
    set_option maxRecDepth 100000 in
    go_enter Try.func76, Try.ntmps76
    go_wp2_with fail
    go_ret
    exact ⟨rfl, rfl⟩
  · have hq : ([c] == s) = false := by simpa using Ne.symm he
    clear he
    set_option maxRecDepth 100000 in
    go_enter Try.func76, Try.ntmps76
    go_wp2_with fail
    refine (slite_IndexByte s c _).mono ?_
    rintro e w1 ⟨rfl, rfl⟩
    go_wp2_with fail
    go_ret
    exact ⟨rfl, rfl⟩
theorem strings_Index_one (s : List UInt8) (c : UInt8) (w : World) : Calls Try.prog 75 #[.string ⟨s.toArray⟩, .string ⟨#[c]⟩] w fun e w' => e = .returned (.int .i64 (Lib.indexByte s c)) ∧ w = w' := by
  go_enter Try.func75, Try.ntmps75
  go_wp2_with fail
  refine (slite_Index s c _).mono ?_
  rintro e w1 ⟨rfl, rfl⟩
  go_wp2_with fail
  go_ret
  exact ⟨rfl, rfl⟩
theorem indexByte_mem (s : List UInt8) (c : UInt8) : decide (0 ≤ Lib.indexByte s c) = s.contains c := by
  induction s with
  | nil => simp [Lib.indexByte]
  | cons b l ih =>
    have hg := Lib.indexByte_ge l c
    rw [Lib.indexByte, List.contains_cons, ← ih]
    by_cases hb : b = c
    · subst hb; simp
    · have h1 : (b == c) = false := by simpa using hb
      have h2 : (c == b) = false := by simpa using Ne.symm hb
      rw [h1, h2]
      by_cases h : Lib.indexByte l c = -1
      · rw [h]; simp
      · have h3 : (Lib.indexByte l c == -1) = false := by simpa using h
        rw [h3]
        simp
        omega
theorem strings_Contains_one (s : List UInt8) (c : UInt8) (w : World) : Calls Try.prog 74 #[.string ⟨s.toArray⟩, .string ⟨#[c]⟩] w fun e w' => e = .returned (.bool (s.contains c)) ∧ w = w' := by
  have hm := Lib.hid (indexByte_mem s c)
  have hge := Lib.indexByte_ge s c
  generalize hx : Lib.indexByte s c = x at *
  have HX := Lib.hid hx
  clear hx
  go_enter Try.func74, Try.ntmps74
  go_wp2_with fail
  refine (strings_Index_one s c _).mono ?_
  rintro e w1 ⟨rfl, rfl⟩
  rw [HX.out]
  go_wp2_with fail
  go_ret
  exact ⟨by rw [← hm.out]; rfl, rfl⟩
end Go.Proofs.Ytgcjfhgkkgocpaa
