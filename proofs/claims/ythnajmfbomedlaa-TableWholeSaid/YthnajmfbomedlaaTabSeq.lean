/- table.seqOf: where a decision stands; old memory is as it was. -/
import Derived.Test.YthnajmfbomedlaaTabPlace
set_option linter.unusedVariables false
namespace Go.Proofs.Ythnajmfbomedlaa
open Go.RowKit Copyhold

theorem seqOf_turn (a : Int) (b : Bool) (w : World) :
    Calls Try.prog 50 #[.agg #[.int .i64 a, .bool b]] w fun e w' => e = .returned (.int .i64 a) ∧ w' = w.alloc (.cells #[.int .i64 a, .bool b] 65) := by
  go_enter Try.func50, Try.ntmps50
  go_wp2_with fail
  go_ret
  exact ⟨rfl, rfl⟩

set_option maxHeartbeats 2000000 in
theorem place_decs (rs : List (Int × Bool)) (A : Option Addr) (c : Nat) (n : Int) (w : World) (hr : SlOf DecR w 2 (.slice A rs.length c) rs) (hn : rs.length ≤ 8796093022207) (h1 : -9223372036854775808 ≤ n) (h2 : n ≤ 9223372036854775807) :
    Calls Try.prog 49 #[.slice A rs.length c, .func (.func 50) #[] #[], .int .i64 n] w fun e w' => e = .returned (.tuple #[.int .i64 (placeN (rs.map (·.1)) n).1, .bool (placeN (rs.map (·.1)) n).2]) ∧ Below w.heap.size w w' := by
  have HR := Lib.hid hr
  obtain ⟨D, hD⟩ : ∃ D, D = placeN (rs.map (·.1)) n := ⟨_, rfl⟩
  rw [← hD]
  have HD := Lib.hid hD
  clear hr hD
  go_enter Try.func49, Try.ntmps49
  go_wp2_with fail
  go_loopw [13] (fun si wr => ∃ k : Nat, si = .int .i64 k ∧ k ≤ rs.length ∧ (∀ m ∈ (rs.map (·.1)).take k, m < n) ∧ Below w.heap.size w wr) (fun si _ => rs.length - (intOf si).toNat)
  case atStart => exact ⟨0, rfl, Nat.zero_le _, by simp, Below.refl _ _⟩
  case round =>
    obtain ⟨k, rfl, hk, hpre, hb⟩ := hrel
    have HP := Lib.hid hpre
    clear hpre
    by_cases hlt : k < rs.length
    · obtain ⟨b, off, cs, rfl, hbk, hcl, ⟨rfl, ho1, ho2⟩, hcells⟩ := (HR.out.below hb).at k (List.getElem?_eq_getElem hlt)
      have k0 : wr.cell? ⟨b, off + k * 2, none⟩ = some (.int .i64 rs[k].1) := hcells 0 _ rfl
      have k1 : wr.cell? ⟨b, off + k * 2 + 1, none⟩ = some (.bool rs[k].2) := by have := hcells 1 _ rfl; rwa [← Nat.add_assoc] at this
      clear hcells hcl
      have hskip := placeN_skip (rs.map (·.1)) n k (by simpa using hk) HP.out
      have hdrop : (rs.map (·.1)).drop k = rs[k].1 :: (rs.map (·.1)).drop (k + 1) := by
        rw [List.drop_eq_getElem_cons (by simpa using hlt)]
        simp
      rw [hdrop] at hskip
      have HSK := Lib.hid hskip
      have hnext : rs[k].1 < n → ∀ m ∈ (rs.map (·.1)).take (k + 1), m < n := fun hlt' m hm => by
        rw [List.take_succ_eq_append_getElem (by simpa using hlt)] at hm
        rcases List.mem_append.1 hm with hm | hm
        · exact HP.out m hm
        · simp at hm; rw [hm]; exact hlt'
      have HNX := Lib.hid hnext
      clear hskip hdrop hnext
      generalize rs[k].1 = x at *
      generalize rs[k].2 = y at *
      have hbw := hb.size
      by_cases hx : n ≤ x
      · have hfin : D = (k, x == n) := by rw [HD.out, HSK.out, placeN, if_pos hx]; rfl
        have HF := Lib.hid hfin
        clear hfin
        go_wp2_with fail
        refine (seqOf_turn x y _).mono ?_
        rintro e w1 ⟨rfl, rfl⟩
        go_wp2_with fail
        go_ret2
        exact ⟨by rw [HF.out]; rfl, (hb.alloc hbw _).alloc (by simp; omega) _⟩
      · have HN2 := Lib.hid (HNX.out (by omega))
        go_wp2_with fail
        refine (seqOf_turn x y _).mono ?_
        rintro e w1 ⟨rfl, rfl⟩
        go_wp2_with fail
        go_roundw
        case rel => exact ⟨k + 1, by go_num, by omega, HN2.out, (hb.alloc hbw _).alloc (by simp; omega) _⟩
        case measure => simp [intOf]; omega
    · have hfin : D = (rs.length, false) := by
        rw [HD.out, placeN_skip (rs.map (·.1)) n k (by simpa using hk) HP.out, List.drop_eq_nil_of_le (by simp; omega)]
        simp [placeN]
        omega
      have HF := Lib.hid hfin
      clear hfin
      go_wp2_with fail
      go_ret2
      exact ⟨by rw [HF.out]; rfl, hb⟩

theorem table_seqOf (rs : List (Int × Bool)) (A : Option Addr) (c : Nat) (n : Int) (w : World) (hr : SlOf DecR w 2 (.slice A rs.length c) rs) (hn : rs.length ≤ 8796093022207) (h1 : -9223372036854775808 ≤ n) (h2 : n ≤ 9223372036854775807) :
    Calls Try.prog 28 #[.slice A rs.length c, .int .i64 n] w fun e w' => e = .returned (.tuple #[.int .i64 (placeN (rs.map (·.1)) n).1, .bool (placeN (rs.map (·.1)) n).2]) ∧ Below w.heap.size w w' := by
  have HC := Lib.hid (place_decs rs A c n w hr hn h1 h2)
  clear hr
  go_enter Try.func28, Try.ntmps28
  go_wp2_with fail
  refine HC.out.mono ?_
  rintro e w1 ⟨rfl, hb1⟩
  have HB := Lib.hid hb1
  clear hb1
  go_wp2_with fail
  go_ret2
  exact ⟨rfl, HB.out⟩
end Go.Proofs.Ythnajmfbomedlaa
