/- copyholdref02: the document's own answers: More, Sum, four, Put, Take; old memory is as it was. -/
import Derived.Test.YtpojhcpkmpbflaaSealMor2
namespace Go.Proofs.Ytpojhcpkmpbflaa
open Go.RowKit Copyhold
attribute [local go_sem] piece

set_option maxRecDepth 100000 in
set_option maxHeartbeats 1000000 in
theorem ref_More (c : Nat) (l : List UInt8) (w : World) (hc : c < 4294967296) (hl : l.length ≤ 140737488355328) :
    Calls Try.prog 73 #[.int .u32 c, .string ⟨l.toArray⟩] w fun e w' => e = .returned (.int .u32 (crcMore c l)) ∧ w = w' := by
  go_enter Try.func73, Try.ntmps73
  go_wp2_with fail
  go_loop [0, 5] (fun r i => ∃ (k d : Nat), k ≤ l.length ∧ d = crcMore c (l.take k) ∧ i = .int .i64 k ∧ r = .int .u32 d) (fun _ i => l.length - (intOf i).toNat)
  case atStart => exact ⟨0, c, Nat.zero_le _, rfl, rfl, rfl⟩
  case round =>
    obtain ⟨k, d, hk, hd, rfl, rfl⟩ := hrel
    have hdl : d < 4294967296 := by rw [hd]; exact crcMore_lt _ _ hc
    have HD := Lib.hid hd
    clear hd
    by_cases hlt : k < l.length
    · have hbb : l[k].toNat < 256 := l[k].toNat_lt
      have hbi : (⟨l.toArray⟩ : ByteArray)[k]'(by simpa [ByteArray.size] using hlt) = l[k] := rfl
      have hx : bits BinOp.xor IntKind.u32 (d : Int) (l[k].toNat : Int) = ((d ^^^ l[k].toNat : Nat) : Int) := u32_xor_nat d l[k].toNat hdl (by omega)
      have hst : crcMore c (l.take (k + 1)) = crcT8 (crcMore c (l.take k) ^^^ l[k].toNat) := by
        rw [List.take_succ_eq_append_getElem hlt, crcMore_append]; rfl
      have hxl : d ^^^ l[k].toNat < 4294967296 := Nat.xor_lt_two_pow (n := 32) hdl (by omega)
      have HS := Lib.hid hst
      have hkd : decide (k < l.length) = true := by simpa using hlt
      clear hst
      generalize l[k] = b at *
      generalize hxx : d ^^^ b.toNat = x at *
      have HX := Lib.hid hxx
      clear hxx
      go_wp2_with fail
      clear hbi hx hkd
      go_loop [0, 6] (fun r j => ∃ n : Nat, n ≤ 8 ∧ j = .int .i64 n ∧ r = .int .u32 (crcN n x)) (fun _ j => 8 - (intOf j).toNat)
      case atStart => exact ⟨0, by decide, rfl, rfl⟩
      case round =>
        obtain ⟨n, hn, rfl, rfl⟩ := hrel
        have hr := crcN_lt n x hxl
        by_cases hn8 : n < 8
        · by_cases h1 : crcN n x % 2 = 1
          · have h2 : crcN (n + 1) x = crcN n x / 2 ^^^ 2197175160 := if_pos h1
            have hx2 := u32_xor_nat (crcN n x / 2) 2197175160 (by omega) (by decide)
            have H2 := Lib.hid h2
            have HX2 := Lib.hid hx2
            have h3 : ((crcN n x : Int) % 2 == 1) = true := by rw [beq_iff_eq]; omega
            clear h2 hx2 h1
            generalize crcN n x = r at *
            go_wp2_with fail
            go_round
            case rel => exact ⟨n + 1, by omega, by go_num, congrArg (Value.int .u32) (by rw [H2.out]; exact HX2.out)⟩
            case measure => simp [intOf]; omega
          · have h2 : crcN (n + 1) x = crcN n x / 2 := if_neg h1
            have H2 := Lib.hid h2
            have h3 : ((crcN n x : Int) % 2 == 1) = false := by rw [beq_eq_false_iff_ne]; omega
            clear h2 h1
            generalize crcN n x = r at *
            go_wp2_with fail
            go_round
            case rel => exact ⟨n + 1, by omega, by go_num, congrArg (Value.int .u32) (by rw [H2.out]; rfl)⟩
            case measure => simp [intOf]; omega
        · obtain rfl : n = 8 := by omega
          go_wp2_with fail
          exact ⟨⟨k + 1, crcT8 x, by omega, by rw [HS.out, ← HX.out, HD.out], by go_num, rfl⟩, by simp [intOf]; omega⟩
    · have hfin : d = crcMore c l := by rw [HD.out, List.take_of_length_le (by omega)]
      have HF := Lib.hid hfin
      clear hfin
      go_wp2_with fail
      go_ret
      exact ⟨by rw [← HF.out]; rfl, rfl⟩

theorem ref_Sum (l : List UInt8) (w : World) (hl : l.length ≤ 140737488355328) :
    Calls Try.prog 57 #[.string ⟨l.toArray⟩] w fun e w' => e = .returned (.int .u32 (crcSum l)) ∧ w = w' := by
  have hm := crcMore_lt l 4294967295 (by decide)
  go_enter Try.func57, Try.ntmps57
  go_wp2_with fail
  refine (ref_More 4294967295 l _ (by decide) hl).mono ?_
  rintro e w1 ⟨rfl, rfl⟩
  go_wp2_with fail
  go_ret
  exact ⟨ret_int (u32_xor_nat _ 4294967295 hm (by decide)), rfl⟩

set_option maxHeartbeats 1000000 in
theorem ref_four (c : Nat) (w : World) (hm : c < 4294967296) :
    Calls Try.prog 56 #[.int .u32 c] w fun e w' => e = .returned (.string ⟨(tailB c).toArray⟩) ∧ Below w.heap.size w w' := by
  have hcv : (convert 56 9 (.slice (some ⟨w.heap.size, 0, none⟩) 4 4)).run Try.prog (w.alloc (.cells #[.int .u8 ((c : Int) % 256), .int .u8 ((c : Int) / 256 % 256), .int .u8 ((c : Int) / 65536 % 256), .int .u8 ((c : Int) / 16777216)] 5)) = .ok (.string ⟨(tailB c).toArray⟩) (w.alloc (.cells #[.int .u8 ((c : Int) % 256), .int .u8 ((c : Int) / 256 % 256), .int .u8 ((c : Int) / 65536 % 256), .int .u8 ((c : Int) / 16777216)] 5)) := by
    have h := run_convert_own (P := Try.prog) (xs := [(c : Int) % 256, (c : Int) / 256 % 256, (c : Int) / 65536 % 256, (c : Int) / 16777216]) 56 9 Try.underlying56 Try.underlying5 Try.underlying9
      (owns_built (w := w) (base := 0) #[.int .u8 ((c : Int) % 256), .int .u8 ((c : Int) / 256 % 256), .int .u8 ((c : Int) / 65536 % 256), .int .u8 ((c : Int) / 16777216)] (Nat.zero_le _) (by simp [maxLen]))
    have e : strOfNums [(c : Int) % 256, (c : Int) / 256 % 256, (c : Int) / 65536 % 256, (c : Int) / 16777216] = ⟨(tailB c).toArray⟩ := by
      simp only [strOfNums, tailB, List.map_cons, List.map_nil]
      rw [show ((c : Int) % 256).toNat = c % 256 from by omega, show ((c : Int) / 256 % 256).toNat = c / 256 % 256 from by omega, show ((c : Int) / 65536 % 256).toNat = c / 65536 % 256 from by omega, show ((c : Int) / 16777216).toNat = c / 16777216 % 256 from by omega]
    rw [e] at h
    exact h
  go_enter Try.func56, Try.ntmps56
  go_wp2_with fail
  go_ret
  exact ⟨rfl, (Below.refl _ _).alloc (Nat.le_refl _) _⟩

theorem ref_Put (l : List UInt8) (w : World) (hl : l.length ≤ 140737488355300) :
    Calls Try.prog 32 #[.string ⟨l.toArray⟩] w fun e w' => e = .returned (.string ⟨(putB l).toArray⟩) ∧ Below w.heap.size w w' := by
  have ht := tailB_len (crcSum l)
  have hp : l ++ tailB (crcSum l) = putB l := rfl
  have hs := crcSum_lt l
  go_enter Try.func32, Try.ntmps32
  go_wp2_with fail
  refine (ref_Sum l _ (by omega)).mono ?_
  rintro e w1 ⟨rfl, rfl⟩
  go_wp2_with fail
  refine (ref_four _ _ hs).mono ?_
  rintro e w2 ⟨rfl, hb2⟩
  go_wp2_with fail
  go_ret
  exact ⟨rfl, hb2⟩

set_option maxHeartbeats 1000000 in
theorem ref_Take (l : List UInt8) (w : World) (hl : l.length ≤ 140737488355328) :
    Calls Try.prog 67 #[.string ⟨l.toArray⟩] w fun e w' => e = .returned (.tuple #[.string ⟨(takeS l).1.toArray⟩, .int .i64 (takeS l).2]) ∧ Below w.heap.size w w' := by
  by_cases h4 : l.length < 4
  · have HF := Lib.hid (show takeS l = ([], 2) from by unfold takeS; rw [if_pos h4])
    go_enter Try.func67, Try.ntmps67
    go_wp2_with fail
    go_ret2
    exact ⟨by rw [HF.out]; rfl, Below.refl _ _⟩
  · obtain ⟨n, hn⟩ : ∃ n, l.length = n + 4 := ⟨l.length - 4, by omega⟩
    have hln : ((l.length : Int) - 4) = (n : Int) := by omega
    have hnl : n ≤ l.length := by omega
    have hnl' : (n : Int) ≤ (l.length : Int) := by omega
    have h4' : ¬ (l.length : Int) < 4 := by omega
    have hs := crcSum_lt (l.take n)
    have HT := Lib.hid (show takeS l = if l.drop n = tailB (crcSum (l.take n)) then (l.take n, 0) else ([], 4) from by
      unfold takeS; rw [if_neg h4, show l.length - 4 = n from by omega])
    clear hn h4
    by_cases hq : l.drop n = tailB (crcSum (l.take n))
    · have HF := Lib.hid (show takeS l = (l.take n, 0) from by rw [HT.out, if_pos hq])
      have hq1 : (tailB (crcSum (l.take n)) == l.drop n) = true := by rw [beq_iff_eq]; exact hq.symm
      clear hq HT
      go_enter Try.func67, Try.ntmps67
      go_wp2_with fail
      go_region_with (first | (go_at_call 57; refine (ref_Sum (l.take n) _ (by simp only [List.length_take]; omega)).mono ?_; rintro e w1 ⟨rfl, rfl⟩) | (go_at_call 56; refine (ref_four _ _ hs).mono ?_; rintro e w1 ⟨rfl, hb1⟩))
      all_goals
        go_wp2_with fail
        go_ret2
        exact ⟨by rw [HF.out]; rfl, (Below.refl _ _).drew.trans hb1⟩
    · have HF := Lib.hid (show takeS l = ([], 4) from by rw [HT.out, if_neg hq])
      have hq1 : (tailB (crcSum (l.take n)) == l.drop n) = false := by rw [beq_eq_false_iff_ne]; exact fun h => hq h.symm
      clear hq HT
      go_enter Try.func67, Try.ntmps67
      go_wp2_with fail
      go_region_with (first | (go_at_call 57; refine (ref_Sum (l.take n) _ (by simp only [List.length_take]; omega)).mono ?_; rintro e w1 ⟨rfl, rfl⟩) | (go_at_call 56; refine (ref_four _ _ hs).mono ?_; rintro e w1 ⟨rfl, hb1⟩))
      all_goals
        go_wp2_with fail
        go_ret2
        exact ⟨by rw [HF.out]; rfl, (Below.refl _ _).drew.trans hb1⟩
end Go.Proofs.Ytpojhcpkmpbflaa
