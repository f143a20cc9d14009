/- node.taking's parts: a number, a count, a text: each answers as the document says, and leaves what is left in its box. -/
import Derived.Test.YtoinafcjkbdjnaaNodeTakeP
import Derived.Test.YtoinafcjkbdjnaaTaking
import Derived.Test.YtoinafcjkbdjnaaOctTakeText
set_option linter.unusedVariables false
namespace Go.Proofs.Ytoinafcjkbdjnaa
open Go.RowKit Copyhold Copyhold.Name

set_option maxHeartbeats 2000000 in
theorem taking_number (l : List UInt8) (B : Nat) (w : World) (hb : BoxT w B l 0) (hl : l.length ≤ 140737488355328) :
    Calls Try.prog 21 #[.pointer (some ⟨B, 0, none⟩)] w fun e w' => e = .returned (.int .i64 (takeWhole l).1) ∧ TakeW w B (takeWhole l).2.1 (takeWhole l).2.2 w' := by
  obtain ⟨c0, c1, f0, f1⟩ := hb
  have hB := cell_lt c0
  have hbd := takeNum_bd l
  have HT := Lib.hid (octet_TakeNum l w hl)
  have HD : Hid (takeWhole l = (unfoldN ((takeNum l).1 : Int), (takeNum l).2.1, (takeNum l).2.2)) := Lib.hid rfl
  generalize takeNum l = x at *
  obtain ⟨n, r, e⟩ := x
  simp only at HT HD hbd
  have HU := Lib.hid (fun W => octet_Unfold (n : Int) W (by omega) (by omega))
  have HBD := Lib.hid hbd
  clear hbd
  go_enter Try.func21, Try.ntmps21
  go_wp2_with fail
  refine HT.out.mono ?_
  rintro e w1 ⟨rfl, hb1⟩
  have d0 := cell_keep hb1 c0
  have d1 := cell_keep hb1 c1
  have g0 := ((bcell hb1).2 B 0 hB).trans f0
  have g1 := ((bcell hb1).2 B 1 hB).trans f1
  have HB1 := Lib.hid hb1
  clear hb1 c0 c1 f0 f1
  go_wp2_with fail
  refine (HU.out _).mono ?_
  rintro e w2 ⟨rfl, rfl⟩
  go_wp2_with fail
  go_ret
  exact ⟨by rw [HD.out]; rfl, _, HB1.out, by rw [HD.out]⟩

set_option maxHeartbeats 2000000 in
theorem taking_number_no (l : List UInt8) (err : Int) (B : Nat) (w : World) (hb : BoxT w B l err) (he : err ≠ 0) :
    Calls Try.prog 21 #[.pointer (some ⟨B, 0, none⟩)] w fun e w' => e = .returned (.int .i64 0) ∧ w = w' := by
  obtain ⟨c0, c1, f0, f1⟩ := hb
  have hB := cell_lt c0
  have hne : (err == 0) = false := by simpa using he
  clear he
  go_enter Try.func21, Try.ntmps21
  go_wp2_with fail
  go_ret
  exact ⟨rfl, rfl⟩

set_option maxHeartbeats 2000000 in
theorem taking_text (l : List UInt8) (most : Int) (B : Nat) (w : World) (hb : BoxT w B l 0) (hl : l.length ≤ 140737488355328) (m1 : -9223372036854775808 ≤ most) (m2 : most ≤ 9223372036854775807) :
    Calls Try.prog 22 #[.pointer (some ⟨B, 0, none⟩), .int .i64 most] w fun e w' => e = .returned (.string ⟨(takeText l most).1.toArray⟩) ∧ TakeW w B (takeText l most).2.1 (takeText l most).2.2 w' := by
  obtain ⟨c0, c1, f0, f1⟩ := hb
  have hB := cell_lt c0
  have HT := Lib.hid (octet_TakeText l most w hl m1 m2)
  generalize takeText l most = x at *
  obtain ⟨n, r, e⟩ := x
  simp only at HT
  go_enter Try.func22, Try.ntmps22
  go_wp2_with fail
  refine HT.out.mono ?_
  rintro e w1 ⟨rfl, hb1⟩
  have d0 := cell_keep hb1 c0
  have d1 := cell_keep hb1 c1
  have g0 := ((bcell hb1).2 B 0 hB).trans f0
  have g1 := ((bcell hb1).2 B 1 hB).trans f1
  have HB1 := Lib.hid hb1
  clear hb1 c0 c1 f0 f1
  go_wp2_with fail
  go_ret
  exact ⟨rfl, _, HB1.out, rfl⟩

set_option maxHeartbeats 2000000 in
theorem taking_text_no (l : List UInt8) (most err : Int) (B : Nat) (w : World) (hb : BoxT w B l err) (he : err ≠ 0) :
    Calls Try.prog 22 #[.pointer (some ⟨B, 0, none⟩), .int .i64 most] w fun e w' => e = .returned (.string ⟨#[]⟩) ∧ w = w' := by
  obtain ⟨c0, c1, f0, f1⟩ := hb
  have hB := cell_lt c0
  have hne : (err == 0) = false := by simpa using he
  clear he
  go_enter Try.func22, Try.ntmps22
  go_wp2_with fail
  go_ret
  exact ⟨rfl, rfl⟩

/-- how many there are: nothing where it isn't told, or above most; what is left then, and the error -/
def countOf (l : List UInt8) (most : Int) : Int := if (takeNum l).2.2 ≠ 0 then 0 else if most < ((takeNum l).1 : Int) then 0 else ((takeNum l).1 : Int)
def countErr (l : List UInt8) (most : Int) : Int := if (takeNum l).2.2 ≠ 0 then (takeNum l).2.2 else if most < ((takeNum l).1 : Int) then 5 else 0
theorem takeNum_bad (l : List UInt8) (h : (takeNum l).2.2 ≠ 0) : (takeNum l).1 = 0 := by
  have : ∀ (l : List UInt8) (k acc : Nat), (tnGo k acc l).2.2 ≠ 0 → (tnGo k acc l).1 = 0 := by
    intro l
    induction l with
    | nil => intro k acc h; rw [tnGo] at h ⊢; split <;> rfl
    | cons b r ih =>
      intro k acc h
      rw [tnGo] at h ⊢
      split
      · rename_i h1
        rw [if_pos h1] at h
        split
        · rename_i h2
          rw [if_pos h2] at h
          split
          · rfl
          · rename_i h3
            rw [if_neg h3] at h
            exact absurd rfl h
        · rename_i h2
          rw [if_neg h2] at h
          exact ih _ _ h
      · rfl
  exact this l 0 0 h
theorem takeCount_of (l : List UInt8) (most : Int) (h0 : 0 ≤ most) : (takeCount l most).2.2 = countErr l most ∧ (countErr l most = 0 → takeCount l most = takeNum l ∧ countOf l most = ((takeCount l most).1 : Int)) ∧ (countErr l most ≠ 0 → countOf l most = 0) := by
  unfold takeCount countErr countOf
  by_cases h1 : (takeNum l).2.2 ≠ 0
  · rw [if_pos h1, if_pos h1, if_pos h1]
    exact ⟨rfl, fun h => absurd h h1, fun _ => rfl⟩
  · rw [if_neg h1, if_neg h1, if_neg h1]
    by_cases h2 : most < ((takeNum l).1 : Int)
    · rw [if_pos (.inr h2), if_pos h2, if_pos h2]
      exact ⟨rfl, fun h => (by cases h), fun _ => rfl⟩
    · rw [if_neg (by omega), if_neg h2, if_neg h2]
      exact ⟨by omega, fun _ => ⟨rfl, rfl⟩, fun h => absurd rfl h⟩

set_option maxHeartbeats 2000000 in
theorem taking_count (l : List UInt8) (most : Int) (B : Nat) (w : World) (hb : BoxT w B l 0) (hl : l.length ≤ 140737488355328) (m1 : 0 ≤ most) (m2 : most ≤ 9223372036854775807) :
    Calls Try.prog 23 #[.pointer (some ⟨B, 0, none⟩), .int .u64 most] w fun e w' => e = .returned (.int .u64 (countOf l most)) ∧ TakeW w B (takeNum l).2.1 (countErr l most) w' := by
  obtain ⟨c0, c1, f0, f1⟩ := hb
  have hB := cell_lt c0
  have hbd := takeNum_bd l
  have HT := Lib.hid (octet_TakeNum l w hl)
  have HD : Hid (countOf l most = if (takeNum l).2.2 ≠ 0 then 0 else if most < ((takeNum l).1 : Int) then 0 else ((takeNum l).1 : Int)) := Lib.hid rfl
  have HE : Hid (countErr l most = if (takeNum l).2.2 ≠ 0 then (takeNum l).2.2 else if most < ((takeNum l).1 : Int) then 5 else 0) := Lib.hid rfl
  have HZ := Lib.hid (takeNum_bad l)
  generalize takeNum l = x at *
  obtain ⟨n, r, e⟩ := x
  simp only at HT HD HE HZ hbd ⊢
  obtain ⟨z, hz⟩ : ∃ z : Int, z = (n : Int) := ⟨_, rfl⟩
  have hz0 : 0 ≤ z := by omega
  have hz1 : z ≤ 18446744073709551615 := by omega
  rw [← hz] at HT HD HE
  have HZZ := Lib.hid hz
  have HBD := Lib.hid hbd
  clear hz hbd
  by_cases hc : most < z
  · have he : e = 0 := Classical.byContradiction fun h => by have := HZ.out h; have := HZZ.out; omega
    subst he
    rw [if_neg (by decide), if_pos hc] at HD HE
    go_enter Try.func23, Try.ntmps23
    go_wp2_with fail
    refine HT.out.mono ?_
    rintro e w1 ⟨rfl, hb1⟩
    have d0 := cell_keep hb1 c0
    have d1 := cell_keep hb1 c1
    have g0 := ((bcell hb1).2 B 0 hB).trans f0
    have g1 := ((bcell hb1).2 B 1 hB).trans f1
    have HB1 := Lib.hid hb1
    clear hb1 c0 c1 f0 f1
    go_wp2_with fail
    go_ret
    refine ⟨by rw [HD.out]; rfl, w1, HB1.out, ?_⟩
    rw [HE.out, setCell_twice]
  · have hd : countOf l most = z := by
      rw [HD.out]
      split
      · rename_i h; have := HZ.out h; have := HZZ.out; omega
      · rfl
    have he : countErr l most = e := by
      rw [HE.out]
      split
      · rfl
      · rename_i h; omega
    have HD2 := Lib.hid hd
    have HE2 := Lib.hid he
    have hc' : decide (most < z) = false := by simpa using hc
    clear hd he HD HE
    go_enter Try.func23, Try.ntmps23
    go_wp2_with fail
    refine HT.out.mono ?_
    rintro e w1 ⟨rfl, hb1⟩
    have d0 := cell_keep hb1 c0
    have d1 := cell_keep hb1 c1
    have g0 := ((bcell hb1).2 B 0 hB).trans f0
    have g1 := ((bcell hb1).2 B 1 hB).trans f1
    have HB1 := Lib.hid hb1
    clear hb1 c0 c1 f0 f1
    go_wp2_with fail
    go_ret
    exact ⟨by rw [HD2.out]; rfl, _, HB1.out, by rw [HE2.out]⟩

set_option maxHeartbeats 2000000 in
theorem taking_count_no (l : List UInt8) (most err : Int) (B : Nat) (w : World) (hb : BoxT w B l err) (he : err ≠ 0) :
    Calls Try.prog 23 #[.pointer (some ⟨B, 0, none⟩), .int .u64 most] w fun e w' => e = .returned (.int .u64 0) ∧ w = w' := by
  obtain ⟨c0, c1, f0, f1⟩ := hb
  have hB := cell_lt c0
  have hne : (err == 0) = false := by simpa using he
  clear he
  go_enter Try.func23, Try.ntmps23
  go_wp2_with fail
  go_ret
  exact ⟨rfl, rfl⟩
end Go.Proofs.Ytoinafcjkbdjnaa
