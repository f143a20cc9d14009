/- strings.Contains of one byte, name.Check, copyholdref06.Check: they answer as the document says; memory is as it was. -/
import Derived.Test.YtibcmgmlklehdaaNameMem
import Derived.Test.YtibcmgmlklehdaaNameS
import Derived.Laws.Externs
import Derived.Lib.Bytealg
set_option linter.unusedVariables false
namespace Go.Proofs.Ytibcmgmlklehdaa
open Go.RowKit Copyhold Copyhold.Name

theorem run_indexByte (s : List UInt8) (c : UInt8) (W : World) : (callFunc 121 #[.string ⟨s.toArray⟩, .int .u8 (c.toNat : Int)]).run Try.prog W = .ok (.value (.int .i64 (Lib.indexByte s c))) W := by
  rw [run_callFunc_extern (e := Extern.BytealgIndexByte.indexByte) Try.func121 (by kernel_rfl) (by kernel_rfl) (by kernel_rfl) (by kernel_rfl), Lib.run_indexByteString]
  simp

theorem slite_IndexByte (s : List UInt8) (c : UInt8) (w : World) : Calls Try.prog 117 #[.string ⟨s.toArray⟩, .int .u8 (c.toNat : Int)] w fun e w' => e = .returned (.int .i64 (Lib.indexByte s c)) ∧ w = w' := by
  have hr := run_indexByte s c
  go_enter Try.func117, Try.ntmps117
  go_wp2_with fail
  go_ret
  exact ⟨rfl, rfl⟩

theorem slite_Index (s : List UInt8) (c : UInt8) (w : World) : Calls Try.prog 116 #[.string ⟨s.toArray⟩, .string ⟨#[c]⟩] w fun e w' => e = .returned (.int .i64 (Lib.indexByte s c)) ∧ w = w' := by
  by_cases he : s = [c]
  · subst he
    rw [show Lib.indexByte [c] c = 0 from by simp [Lib.indexByte]]
    set_option maxRecDepth 100000 in
    go_enter Try.func116, Try.ntmps116
    go_wp2_with fail
    go_ret
    exact ⟨rfl, rfl⟩
  · have hq : ([c] == s) = false := by simpa using Ne.symm he
    clear he
    set_option maxRecDepth 100000 in
    go_enter Try.func116, Try.ntmps116
    go_wp2_with fail
    refine (slite_IndexByte s c _).mono ?_
    rintro e w1 ⟨rfl, rfl⟩
    go_wp2_with fail
    go_ret
    exact ⟨rfl, rfl⟩

theorem strings_Index_one (s : List UInt8) (c : UInt8) (w : World) : Calls Try.prog 114 #[.string ⟨s.toArray⟩, .string ⟨#[c]⟩] w fun e w' => e = .returned (.int .i64 (Lib.indexByte s c)) ∧ w = w' := by
  go_enter Try.func114, Try.ntmps114
  go_wp2_with fail
  refine (slite_Index s c _).mono ?_
  rintro e w1 ⟨rfl, rfl⟩
  go_wp2_with fail
  go_ret
  exact ⟨rfl, rfl⟩

theorem indexByte_mem (s : List UInt8) (c : UInt8) : decide (0 ≤ Lib.indexByte s c) = s.contains c := by
  induction s with
  | nil => simp [Lib.indexByte]
  | cons b l ih =>
    have hg := Lib.indexByte_ge l c
    rw [Lib.indexByte, List.contains_cons, ← ih]
    by_cases hb : b = c
    · subst hb; simp
    · have h1 : (b == c) = false := by simpa using hb
      have h2 : (c == b) = false := by simpa using Ne.symm hb
      rw [h1, h2]
      by_cases h : Lib.indexByte l c = -1
      · rw [h]; simp
      · have h3 : (Lib.indexByte l c == -1) = false := by simpa using h
        rw [h3]
        simp
        omega

theorem strings_Contains_one (s : List UInt8) (c : UInt8) (w : World) : Calls Try.prog 103 #[.string ⟨s.toArray⟩, .string ⟨#[c]⟩] w fun e w' => e = .returned (.bool (s.contains c)) ∧ w = w' := by
  have hm := Lib.hid (indexByte_mem s c)
  have hge := Lib.indexByte_ge s c
  generalize hx : Lib.indexByte s c = x at *
  have HX := Lib.hid hx
  clear hx
  go_enter Try.func103, Try.ntmps103
  go_wp2_with fail
  refine (strings_Index_one s c _).mono ?_
  rintro e w1 ⟨rfl, rfl⟩
  rw [HX.out]
  go_wp2_with fail
  go_ret
  exact ⟨by rw [← hm.out]; rfl, rfl⟩

/-- why a name isn't right -/
def checkD (s : List UInt8) : Int := if okN s then 0 else 10

set_option maxHeartbeats 1000000 in
theorem name_Check (s : List UInt8) (w : World) (hs : s.length ≤ 140737488351232) : Calls Try.prog 87 #[.string ⟨s.toArray⟩] w fun e w' => e = .returned (.int .i64 (checkD s)) ∧ w = w' := by
  by_cases h0 : s = []
  · subst h0
    go_enter Try.func87, Try.ntmps87
    go_wp2_with fail
    go_ret
    exact ⟨rfl, rfl⟩
  by_cases h1 : s = [46]
  · subst h1
    go_enter Try.func87, Try.ntmps87
    go_wp2_with fail
    go_ret
    exact ⟨rfl, rfl⟩
  by_cases h2 : s = [46, 46]
  · subst h2
    go_enter Try.func87, Try.ntmps87
    go_wp2_with fail
    go_ret
    exact ⟨rfl, rfl⟩
  have e0 : (s == []) = false := by simpa using h0
  have e1 : (s == [46]) = false := by simpa using h1
  have e2 : (s == [46, 46]) = false := by simpa using h2
  by_cases h3 : s.length ≤ 32
  · have hcd : checkD s = if !s.contains 47 && !s.contains 0 then 0 else 10 := by
      have q0 : (s == []) = false := by simpa using h0
      have q1 : (s == [46]) = false := by simpa using h1
      have q2 : (s == [46, 46]) = false := by simpa using h2
      simp [checkD, okN, h3, q0, q1, q2]
    rw [hcd]
    clear hcd h0 h1 h2
    cases h4 : s.contains 47
    · cases h5 : s.contains 0
      all_goals
        have H4 := Lib.hid h4
        have H5 := Lib.hid h5
        clear h4 h5
        go_enter Try.func87, Try.ntmps87
        go_wp2_with fail
        refine (strings_Contains_one s 47 _).mono ?_
        rintro e w1 ⟨rfl, rfl⟩
        rw [H4.out]
        go_wp2_with fail
        refine (strings_Contains_one s 0 _).mono ?_
        rintro e w1 ⟨rfl, rfl⟩
        rw [H5.out]
        go_wp2_with fail
        go_ret
        exact ⟨rfl, rfl⟩
    · have H4 := Lib.hid h4
      clear h4
      go_enter Try.func87, Try.ntmps87
      go_wp2_with fail
      refine (strings_Contains_one s 47 _).mono ?_
      rintro e w1 ⟨rfl, rfl⟩
      rw [H4.out]
      go_wp2_with fail
      go_ret
      exact ⟨rfl, rfl⟩
  · have hcd : checkD s = 10 := by
      have : decide (s.length ≤ 32) = false := by simpa using h3
      simp [checkD, okN, this]
    rw [hcd]
    clear hcd h0 h1 h2
    go_enter Try.func87, Try.ntmps87
    go_wp2_with fail
    go_ret
    exact ⟨rfl, rfl⟩
theorem less_eq : ∀ (x y : List UInt8), Op.bytesLess x y = decide (x < y)
  | [], [] => by simp [Op.bytesLess]
  | a :: x, [] => by simp [Op.bytesLess]
  | [], b :: y => by simp [Op.bytesLess]
  | a :: x, b :: y => by
    rw [Op.bytesLess, less_eq x y, Bool.eq_iff_iff]
    simp only [Bool.or_eq_true, Bool.and_eq_true, decide_eq_true_eq, beq_iff_eq, List.cons_lt_cons_iff]
theorem gete (l : List Ent) (i : Nat) (h : i < l.length) : l.getD i ([], 0) = l[i] := by simp [List.getD, h]
end Go.Proofs.Ytibcmgmlklehdaa
