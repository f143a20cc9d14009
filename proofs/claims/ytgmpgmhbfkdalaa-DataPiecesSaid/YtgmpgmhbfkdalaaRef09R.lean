/- copyholdref09.Read: it answers as the document says; old memory is as it was. -/
import Derived.Test.YtgmpgmhbfkdalaaBrow
set_option linter.unusedVariables false
namespace Go.Proofs.Ytgmpgmhbfkdalaa
open Go.RowKit Copyhold
attribute [local go_sem] piece

theorem byte_at {l : List UInt8} {k : Nat} (hk : k < (⟨l.toArray⟩ : ByteArray).size) (hk' : k < l.length) : ((⟨l.toArray⟩ : ByteArray)[k]'hk) = l[k] := rfl

set_option maxHeartbeats 1000000 in
theorem ref09_Read_ok (s : List UInt8) (a m : Nat) (w : World) (hs : s.length ≤ 1048576) (h : ofOk a m) :
    Calls Try.prog 12 #[.string ⟨s.toArray⟩, .int .i64 a, .int .i64 m] w fun e w' => e = .returned (.tuple #[.string ⟨((s.drop a).take m).toArray⟩, .int .i64 0]) ∧ Below w.heap.size w w' := by
  obtain ⟨h1, h2, h3, h4⟩ := h
  go_enter Try.func12, Try.ntmps12
  go_wp2_with fail
  go_loopw [8, 9] (fun sb si wr => ∃ (k : Nat) (l : List UInt8), si = .int .i64 ((a : Int) + k) ∧ l = (s.drop a).take k ∧ l.length = k ∧ k ≤ m ∧ Brow wr w.heap.size sb l ∧ Below w.heap.size w wr) (fun _ si _ => s.length - (intOf si).toNat)
  case atStart => exact ⟨0, [], by simp, by simp, rfl, Nat.zero_le _, .inl ⟨rfl, rfl⟩, Below.refl _ _⟩
  case round =>
    obtain ⟨k, l, rfl, hl, hlk, hk, hown, hb⟩ := hrel
    have HL := Lib.hid hl
    have HLK := Lib.hid hlk
    have hll : l.length ≤ 1048576 := by rw [hl]; simp; omega
    have HO := Lib.hid hown
    obtain ⟨A, c, rfl⟩ := hown.shape
    rw [hlk]
    clear hl hown
    by_cases hlt : a + k < s.length
    · by_cases hkm : k < m
      · obtain ⟨v', w', hrun, hown', hb'⟩ := HO.out.append s[a + k] hll hb.size
        rw [hlk] at hrun
        have hnext : l ++ [s[a + k]] = (s.drop a).take (k + 1) := by
          rw [HL.out, List.take_succ_eq_append_getElem (by simp; omega)]
          simp
        have HN := Lib.hid hnext
        have HO' := Lib.hid hown'
        have HB' := Lib.hid (hb.trans hb')
        have hin : (a : Int) + k < s.length := by omega
        clear hnext hown' hb' hlk
        unfold byteV at hrun
        go_wp2_with (at_builtin; refine wpList_append_run rfl _ _ _ rfl _ _ _ _ rfl rfl hrun ?_)
        go_roundw
        case rel => exact ⟨k + 1, l ++ [s[a + k]], by simp; omega, HN.out, by rw [List.length_append, HLK.out]; rfl, by omega, HO'.out, HB'.out⟩
        case measure => simp [intOf]; omega
      · have hfin : (s.drop a).take m = l := by rw [HL.out, show k = m from by omega]
        have hbk := HO.out.back
        rw [hlk] at hbk
        have HF := Lib.hid hfin
        clear hfin hlk
        go_wp2_with fail
        go_ret2
        exact ⟨by rw [HF.out]; rfl, hb⟩
    · have hfin : (s.drop a).take m = l := by
        have h1 := HL.out
        have h2 := HLK.out
        rw [h1] at h2 ⊢
        have h3 : (s.drop a).length ≤ k := by simp; omega
        rw [List.take_of_length_le h3, List.take_of_length_le (by omega)]
      have hbk := HO.out.back
      rw [hlk] at hbk
      have HF := Lib.hid hfin
      have hd : decide ((a : Int) + k < s.length) = false := by simp; omega
      clear hfin hlk
      go_wp2_with fail
      go_ret2
      exact ⟨by rw [HF.out]; rfl, hb⟩

theorem ref09_Read_bad (s : List UInt8) (a m : Int) (w : World) (ha1 : -9223372036854775808 ≤ a) (ha2 : a ≤ 9223372036854775807) (hb1 : -9223372036854775808 ≤ m) (hb2 : m ≤ 9223372036854775807) (h : ¬ ofOk a m) :
    Calls Try.prog 12 #[.string ⟨s.toArray⟩, .int .i64 a, .int .i64 m] w fun e w' => e = .returned (.tuple #[.string ⟨#[]⟩, .int .i64 1]) ∧ Below w.heap.size w w' := by
  unfold ofOk at h
  rcases (show a < 0 ∨ 0 ≤ a ∧ 1099511627776 < a ∨ 0 ≤ a ∧ a ≤ 1099511627776 ∧ m < 0 ∨ 0 ≤ a ∧ a ≤ 1099511627776 ∧ 0 ≤ m ∧ 1099511627776 - a < m from by omega) with h1 | ⟨h1, h2⟩ | ⟨h1, h2, h3⟩ | ⟨h1, h2, h3, h4⟩
  all_goals
    clear h
    go_enter Try.func12, Try.ntmps12
    go_wp2_with fail
    go_ret2
    exact ⟨rfl, Below.refl _ _⟩

theorem ref09_Read (s : List UInt8) (a m : Int) (w : World) (hs : s.length ≤ 1048576) (ha1 : -9223372036854775808 ≤ a) (ha2 : a ≤ 9223372036854775807) (hb1 : -9223372036854775808 ≤ m) (hb2 : m ≤ 9223372036854775807) :
    Calls Try.prog 12 #[.string ⟨s.toArray⟩, .int .i64 a, .int .i64 m] w fun e w' => e = .returned (.tuple #[.string ⟨(readD s a m).1.toArray⟩, .int .i64 (readD s a m).2]) ∧ Below w.heap.size w w' := by
  by_cases h : ofOk a m
  · have hr : readD s a m = ((s.drop a.toNat).take m.toNat, 0) := if_pos h
    rw [hr]
    obtain ⟨h1, h2, _⟩ := id h
    obtain ⟨a, rfl⟩ := Int.eq_ofNat_of_zero_le h1
    obtain ⟨m, rfl⟩ := Int.eq_ofNat_of_zero_le h2
    rw [Int.toNat_natCast, Int.toNat_natCast]
    exact ref09_Read_ok s a m w hs h
  · have hr : readD s a m = ([], 1) := if_neg h
    rw [hr]
    exact ref09_Read_bad s a m w ha1 ha2 hb1 hb2 h
end Go.Proofs.Ytgmpgmhbfkdalaa
