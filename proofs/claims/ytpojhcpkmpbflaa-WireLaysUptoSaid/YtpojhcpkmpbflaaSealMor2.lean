/- seal.More, Sum, tail, Put, Take, Right: for every text they answer as the document says; old memory is as it was. -/
import Derived.Test.YtpojhcpkmpbflaaSealTurned
import Derived.Deep.QuietTactic
import Derived.BigQuiet
import Derived.Deep.RegionWith
import Derived.IntWalk
namespace Go.Proofs.Ytpojhcpkmpbflaa
open Go.RowKit Copyhold
attribute [local go_sem] piece

set_option maxRecDepth 100000 in
set_option maxHeartbeats 1000000 in
theorem seal_More (c : Nat) (l : List UInt8) (w : World) (hc : c < 4294967296) (hl : l.length ≤ 140737488355328) :
    Calls Try.prog 82 #[.int .u32 c, .string ⟨l.toArray⟩] w fun e w' => e = .returned (.int .u32 (crcMore c l)) ∧ Below w.heap.size w w' := by
  have hz := zero_tab
  go_enter Try.func82, Try.ntmps82
  go_wp2_with fail
  refine (seal_turned _).mono ?_
  rintro e w1 ⟨rfl, hb1⟩
  have hs1 := hb1.size
  go_wp2_with (refine wpList_store_row rfl 133 _ _ rfl w1.heap.size (tabV 256) rfl rfl 133 (tabV 0) (heap_alloc_new _ _) (by rw [tabV_size]; exact info_tab) (by rw [tabV_size, tabV_size]) (tabV_plain _) ?_)
  have hW : ((w1.alloc (.cells (tabV 0) 133)).setRow w1.heap.size (tabV 256)).heap[w1.heap.size]? = some (.cells (tabV 256) 133 (0, 0)) := setRow_heap _ _ (tabV 0) _ _ _ (heap_alloc_new w1 _)
  have hbW : Below w.heap.size w ((w1.alloc (.cells (tabV 0) 133)).setRow w1.heap.size (tabV 256)) := below_setRow (hb1.alloc hs1 _) hs1 _
  clear hz
  generalize (w1.alloc (.cells (tabV 0) 133)).setRow w1.heap.size (tabV 256) = W at *
  have HW := Lib.hid hW
  clear hW
  go_wp2_with fail
  go_loop [0, 10] (fun r i => ∃ (k d : Nat), k ≤ l.length ∧ d = crcMore c (l.take k) ∧ i = .int .i64 k ∧ r = .int .u32 d) (fun _ i => l.length - (intOf i).toNat)
  case atStart => exact ⟨0, c, Nat.zero_le _, rfl, rfl, rfl⟩
  case round =>
    obtain ⟨k, d, hk, hd, rfl, rfl⟩ := hrel
    have hdl : d < 4294967296 := by rw [hd]; exact crcMore_lt _ _ hc
    have HD := Lib.hid hd
    clear hd
    by_cases hlt : k < l.length
    · have hbb : l[k].toNat < 256 := l[k].toNat_lt
      have hbi : (⟨l.toArray⟩ : ByteArray)[k]'(by simpa [ByteArray.size] using hlt) = l[k] := rfl
      have hx : bits BinOp.xor IntKind.u8 ((d : Int) % 256) (l[k].toNat : Int) = ((d % 256 ^^^ l[k].toNat : Nat) : Int) := u8_xor_nat (d % 256) l[k].toNat (by omega) hbb
      have hil : d % 256 ^^^ l[k].toNat < 256 := Nat.xor_lt_two_pow (n := 8) (by omega) hbb
      have hcell : W.cell? ⟨w1.heap.size, d % 256 ^^^ l[k].toNat, none⟩ = some (.int .u32 (crcT8 (d % 256 ^^^ l[k].toNat))) := by
        rw [cell_of_row W _ _ _ _ _ HW.out, tabV_at _ _ hil, if_pos hil]
      have hy : bits BinOp.xor IntKind.u32 ((d : Int) / 256) (crcT8 (d % 256 ^^^ l[k].toNat) : Int) = ((crcStep d l[k] : Nat) : Int) := by
        rw [crcStep_table]
        exact u32_xor_nat (d / 256) _ (by omega) (crcT8_lt _ (by omega))
      have hst : crcMore c (l.take (k + 1)) = crcStep (crcMore c (l.take k)) l[k] := by
        rw [List.take_succ_eq_append_getElem hlt, crcMore_append]; rfl
      have HS := Lib.hid hst
      clear hst
      generalize l[k] = b at *
      generalize d % 256 ^^^ b.toNat = i at *
      go_wp2_with fail
      go_round
      case rel => exact ⟨k + 1, crcStep d b, by omega, by rw [HS.out, HD.out], by go_num, rfl⟩
      case measure => simp [intOf]; omega
    · have hfin : d = crcMore c l := by rw [HD.out, List.take_of_length_le (by omega)]
      have HF := Lib.hid hfin
      clear hfin
      go_wp2_with fail
      go_ret
      exact ⟨by rw [← HF.out]; rfl, hbW⟩

set_option maxHeartbeats 1000000 in
theorem seal_Sum (l : List UInt8) (w : World) (hl : l.length ≤ 140737488355328) :
    Calls Try.prog 72 #[.string ⟨l.toArray⟩] w fun e w' => e = .returned (.int .u32 (crcSum l)) ∧ Below w.heap.size w w' := by
  have hm := crcMore_lt l 4294967295 (by decide)
  go_enter Try.func72, Try.ntmps72
  go_wp2_with fail
  refine (seal_More 4294967295 l _ (by decide) hl).mono ?_
  rintro e w1 ⟨rfl, hb1⟩
  go_wp2_with fail
  go_ret
  exact ⟨ret_int (by
    rw [show IntKind.u32.max = ((4294967295 : Nat) : Int) from rfl, u32_xor_nat _ _ (by decide) hm, Nat.xor_comm]; rfl), hb1⟩

set_option maxHeartbeats 1000000 in
theorem seal_tail (l : List UInt8) (w : World) (hl : l.length ≤ 140737488355328) :
    Calls Try.prog 55 #[.string ⟨l.toArray⟩] w fun e w' => e = .returned (.string ⟨(tailB (crcSum l)).toArray⟩) ∧ Below w.heap.size w w' := by
  have hm := crcSum_lt l
  go_enter Try.func55, Try.ntmps55
  go_wp2_with fail
  refine (seal_Sum l _ hl).mono ?_
  rintro e w1 ⟨rfl, hb1⟩
  have hs1 := hb1.size
  obtain ⟨c, hce⟩ : ∃ c, c = crcSum l := ⟨_, rfl⟩
  rw [← hce] at hm ⊢
  have HC := Lib.hid hce
  clear hce
  have hcv : (convert 56 9 (.slice (some ⟨w1.heap.size, 0, none⟩) 4 4)).run Try.prog (w1.alloc (.cells #[.int .u8 ((c : Int) % 256), .int .u8 ((c : Int) / 256 % 256), .int .u8 ((c : Int) / 65536 % 256), .int .u8 ((c : Int) / 16777216)] 5)) = .ok (.string ⟨(tailB c).toArray⟩) (w1.alloc (.cells #[.int .u8 ((c : Int) % 256), .int .u8 ((c : Int) / 256 % 256), .int .u8 ((c : Int) / 65536 % 256), .int .u8 ((c : Int) / 16777216)] 5)) := by
    have h := run_convert_own (P := Try.prog) (xs := [(c : Int) % 256, (c : Int) / 256 % 256, (c : Int) / 65536 % 256, (c : Int) / 16777216]) 56 9 Try.underlying56 Try.underlying5 Try.underlying9
      (owns_built (w := w1) (base := 0) #[.int .u8 ((c : Int) % 256), .int .u8 ((c : Int) / 256 % 256), .int .u8 ((c : Int) / 65536 % 256), .int .u8 ((c : Int) / 16777216)] (Nat.zero_le _) (by simp [maxLen]))
    have e : strOfNums [(c : Int) % 256, (c : Int) / 256 % 256, (c : Int) / 65536 % 256, (c : Int) / 16777216] = ⟨(tailB c).toArray⟩ := by
      simp only [strOfNums, tailB, List.map_cons, List.map_nil]
      rw [show ((c : Int) % 256).toNat = c % 256 from by omega, show ((c : Int) / 256 % 256).toNat = c / 256 % 256 from by omega, show ((c : Int) / 65536 % 256).toNat = c / 65536 % 256 from by omega, show ((c : Int) / 16777216).toNat = c / 16777216 % 256 from by omega]
    rw [e] at h
    exact h
  go_wp2_with fail
  go_ret
  exact ⟨by rw [← HC.out]; rfl, hb1.alloc hs1 _⟩

set_option maxHeartbeats 1000000 in
theorem seal_Put (l : List UInt8) (w : World) (hl : l.length ≤ 140737488355300) :
    Calls Try.prog 31 #[.string ⟨l.toArray⟩] w fun e w' => e = .returned (.string ⟨(putB l).toArray⟩) ∧ Below w.heap.size w w' := by
  have ht := tailB_len (crcSum l)
  have hp : l ++ tailB (crcSum l) = putB l := rfl
  go_enter Try.func31, Try.ntmps31
  go_wp2_with fail
  refine (seal_tail l _ (by omega)).mono ?_
  rintro e w1 ⟨rfl, hb1⟩
  go_wp2_with fail
  go_ret
  exact ⟨rfl, hb1⟩

set_option maxHeartbeats 1000000 in
theorem seal_Take (l : List UInt8) (w : World) (hl : l.length ≤ 140737488355328) :
    Calls Try.prog 62 #[.string ⟨l.toArray⟩] w fun e w' => e = .returned (.tuple #[.string ⟨(takeS l).1.toArray⟩, .int .i64 (takeS l).2]) ∧ Below w.heap.size w w' := by
  by_cases h4 : l.length < 4
  · have HF := Lib.hid (show takeS l = ([], 2) from by unfold takeS; rw [if_pos h4])
    go_enter Try.func62, Try.ntmps62
    go_wp2_with fail
    go_ret2
    exact ⟨by rw [HF.out]; rfl, Below.refl _ _⟩
  · obtain ⟨n, hn⟩ : ∃ n, l.length = n + 4 := ⟨l.length - 4, by omega⟩
    have hln : ((l.length : Int) - 4) = (n : Int) := by omega
    have hnl : n ≤ l.length := by omega
    have hnl' : (n : Int) ≤ (l.length : Int) := by omega
    have HT := Lib.hid (show takeS l = if l.drop n = tailB (crcSum (l.take n)) then (l.take n, 0) else ([], 4) from by
      unfold takeS; rw [if_neg h4, show l.length - 4 = n from by omega])
    clear hn h4
    by_cases hq : l.drop n = tailB (crcSum (l.take n))
    · have HF := Lib.hid (show takeS l = (l.take n, 0) from by rw [HT.out, if_pos hq])
      have hq1 : (l.drop n == tailB (crcSum (l.take n))) = true := by rw [beq_iff_eq]; exact hq
      clear hq HT
      go_enter Try.func62, Try.ntmps62
      go_wp2_with fail
      go_region_with (go_at_call 55; refine (seal_tail (l.take n) _ (by simp only [List.length_take]; omega)).mono ?_; rintro e w1 ⟨rfl, hb1⟩)
      all_goals
        go_wp2_with fail
        go_ret2
        exact ⟨by rw [HF.out]; rfl, (Below.refl _ _).drew.trans hb1⟩
    · have HF := Lib.hid (show takeS l = ([], 4) from by rw [HT.out, if_neg hq])
      have hq1 : (l.drop n == tailB (crcSum (l.take n))) = false := by rw [beq_eq_false_iff_ne]; exact hq
      clear hq HT
      go_enter Try.func62, Try.ntmps62
      go_wp2_with fail
      go_region_with (go_at_call 55; refine (seal_tail (l.take n) _ (by simp only [List.length_take]; omega)).mono ?_; rintro e w1 ⟨rfl, hb1⟩)
      all_goals
        go_wp2_with fail
        go_ret2
        exact ⟨by rw [HF.out]; rfl, (Below.refl _ _).drew.trans hb1⟩

end Go.Proofs.Ytpojhcpkmpbflaa
