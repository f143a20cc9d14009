/- copyholdref01.Long, Strings, List: over rows of texts of fewer than 2^31 bytes in all; old memory is as it was. -/
import Derived.Test.YtpojhcpkmpbflaaRef01Num
import Derived.Test.YtpojhcpkmpbflaaOctList
import Derived.Deep.QuietTactic
import Derived.BigQuiet
namespace Go.Proofs.Ytpojhcpkmpbflaa
open Go.RowKit Copyhold

theorem sum_take (ls : List (List UInt8)) (k : Nat) (h : k < ls.length) : ((ls.take (k + 1)).map List.length).sum = ((ls.take k).map List.length).sum + ls[k].length := by
  rw [List.take_succ_eq_append_getElem h, List.map_append, List.sum_append]; simp
theorem sum_take_le (ls : List (List UInt8)) (k : Nat) : ((ls.take k).map List.length).sum ≤ (ls.map List.length).sum := by
  induction ls generalizing k with
  | nil => simp
  | cons x r ih =>
    cases k with
    | zero => simp
    | succ k =>
      have := ih k
      simp only [List.take_succ_cons, List.map_cons, List.sum_cons]
      omega

/-- how many bytes texts have, and how many there are -/
def longN (ls : List (List UInt8)) : Nat := (ls.map List.length).sum + ls.length

set_option maxHeartbeats 800000 in
theorem ref_Long (v : Value) (ls : List (List UInt8)) (w : World) (hv : Row w v (ls.map strV)) (hlen : (ls.map List.length).sum + ls.length ≤ 2147483648) :
    Calls Try.prog 12 #[v] w fun e w' => e = .returned (.int .i64 (longN ls)) ∧ w = w' := by
  obtain ⟨a, c, rfl⟩ := hv.shape
  rw [List.length_map] at hv ⊢
  have HV := Lib.hid hv; clear hv
  have hll : ls.length ≤ 2147483648 := by omega
  have HL := Lib.hid hlen; clear hlen
  go_enter Try.func12, Try.ntmps12
  go_wp2_with fail
  go_loop [3, 4] (fun n i => ∃ k m : Nat, k ≤ ls.length ∧ m = ((ls.take k).map List.length).sum + ls.length ∧ i = .int .i64 k ∧ n = .int .i64 m) (fun _ i => ls.length - (intOf i).toNat)
  case atStart => exact ⟨0, ls.length, Nat.zero_le _, by simp, rfl, rfl⟩
  case round =>
    obtain ⟨k, m, hk, hm, rfl, rfl⟩ := hrel
    have HM := Lib.hid hm
    have hml := sum_take_le ls k
    have hm2 : m ≤ 2147483648 := by have := HL.out; omega
    clear hm hml
    by_cases hlt : k < ls.length
    · obtain ⟨b, off, rfl, hbk, _, hcs⟩ := HV.out.at k (x := strV ls[k]) (by simp [hlt])
      have hc : w.cell? ⟨b, off + k, none⟩ = some (.string ⟨(ls[k]).toArray⟩) := hcs k (strV ls[k]) (by simp [hlt])
      have hst := sum_take ls k hlt
      have hstl := sum_take_le ls (k + 1)
      have HS := Lib.hid hst
      have hm3 : m + ls[k].length ≤ 2147483648 := by have := HL.out; have := HM.out; omega
      clear hcs hst hstl
      generalize ls[k] = x at *
      go_wp2_with fail
      go_round
      case rel => exact ⟨k + 1, m + x.length, by omega, by rw [HS.out, HM.out]; omega, by go_num, by go_num⟩
      case measure => simp [intOf]; omega
    · have hkl : k = ls.length := by omega
      have hfin : m = longN ls := by
        rw [HM.out, hkl, List.take_length]; rfl
      have HF := Lib.hid hfin
      clear hkl hfin
      go_wp2_with fail
      go_ret
      exact ⟨by rw [← HF.out]; rfl, rfl⟩

def listB' (ls : List (List UInt8)) (k : Nat) : List UInt8 := numB ls.length ++ ((ls.take k).map textB).flatten
theorem listB'_len (ls : List (List UInt8)) (k : Nat) (h : (ls.map List.length).sum + ls.length ≤ 2147483648) : (listB' ls k).length ≤ (ls.map List.length).sum + 10 * ls.length + 20 := by
  have h0 := numB_len10 ls.length (by omega)
  have h1 := flat_len (ls.take k) (by have := sum_take_le ls k; rw [List.length_take]; omega)
  have h2 := sum_take_le ls k
  unfold listB at h1
  unfold listB'
  rw [List.length_append] at h1 ⊢
  rw [List.length_take] at h1
  omega

set_option maxHeartbeats 800000 in
theorem ref_List (v : Value) (ls : List (List UInt8)) (w : World) (hv : Row w v (ls.map strV)) (hlen : (ls.map List.length).sum + ls.length ≤ 2147483648) :
    Calls Try.prog 34 #[v] w fun e w' => e = .returned (.string ⟨(listB ls).toArray⟩) ∧ Below w.heap.size w w' := by
  obtain ⟨a, c, rfl⟩ := hv.shape
  rw [List.length_map] at hv ⊢
  have HV := Lib.hid hv; clear hv
  have hll : ls.length ≤ 2147483648 := by omega
  have HL := Lib.hid hlen; clear hlen
  go_enter Try.func34, Try.ntmps34
  go_wp2_with fail
  refine (ref_Num _ _ (by omega) (by omega)).mono ?_
  rintro e w1 ⟨rfl, hb1⟩
  rw [Int.toNat_natCast]
  go_wp2_with fail
  go_loopw [3, 4] (fun s i wr => ∃ (k : Nat) (x : List UInt8), k ≤ ls.length ∧ x = listB' ls k ∧ i = .int .i64 k ∧ s = .string ⟨x.toArray⟩ ∧ Below w.heap.size w wr) (fun _ i _ => ls.length - (intOf i).toNat)
  case atStart => exact ⟨0, _, Nat.zero_le _, by simp [listB'], rfl, rfl, hb1⟩
  case round =>
    obtain ⟨k, x, hk, hx, rfl, rfl, hb⟩ := hrel
    have hxl := listB'_len ls k HL.out
    rw [← hx] at hxl
    have hxl2 : x.length ≤ 30000000000 := by have := HL.out; omega
    have HX := Lib.hid hx
    clear hx hxl
    have hsz := hb.size
    by_cases hlt : k < ls.length
    · obtain ⟨b, off, rfl, hbk, _, hcs⟩ := HV.out.at k (x := strV ls[k]) (by simp [hlt])
      have hc : wr.cell? ⟨b, off + k, none⟩ = some (.string ⟨(ls[k]).toArray⟩) := (hb.cell (p := ⟨b, off + k, none⟩) hbk).trans (hcs k (strV ls[k]) (by simp [hlt]))
      have hyl := len_le_sum (List.getElem_mem hlt)
      have hyl2 : ls[k].length ≤ 2147483648 := by have := HL.out; omega
      have hst : listB' ls (k + 1) = listB' ls k ++ textB ls[k] := by
        unfold listB'
        rw [List.take_succ_eq_append_getElem hlt, List.map_append, List.flatten_append]; simp
      have htl := textB_len ls[k] (by omega)
      have HS := Lib.hid hst
      clear hcs hst hyl
      generalize ls[k] = y at *
      go_wp2_with fail
      refine (ref_Text y _ (by omega)).mono ?_
      rintro e w2 ⟨rfl, hb2⟩
      go_wp2_with fail
      go_roundw
      case rel => exact ⟨k + 1, x ++ textB y, by omega, by rw [HS.out, HX.out], by go_num, rfl, hb.trans (hb2.mono hsz)⟩
      case measure => simp [intOf]; omega
    · have hfin : x = listB ls := by
        rw [HX.out, listB', List.take_of_length_le (by omega)]; rfl
      have HF := Lib.hid hfin
      clear hfin
      go_wp2_with fail
      go_ret
      exact ⟨by rw [← HF.out]; rfl, hb⟩

/-- 'are two rows the same?' -/
def sameTexts (a b : List (List UInt8)) : Bool := a == b

set_option maxHeartbeats 1000000 in
theorem ref_Strings (va vb : Value) (xs ys : List (List UInt8)) (w : World) (ha : Row w va (xs.map strV)) (hb : Row w vb (ys.map strV)) (hla : xs.length ≤ 2147483648) (hlb : ys.length ≤ 2147483648) :
    Calls Try.prog 58 #[va, vb] w fun e w' => e = .returned (.bool (sameTexts xs ys)) ∧ Below w.heap.size w w' := by
  obtain ⟨a, c, rfl⟩ := ha.shape
  obtain ⟨a', c', rfl⟩ := hb.shape
  rw [List.length_map] at ha hb
  rw [List.length_map, List.length_map]
  have HA := Lib.hid ha
  have HB := Lib.hid hb
  clear ha hb
  by_cases hl : xs.length = ys.length
  · have hl1 : ((xs.length : Int) != (ys.length : Int)) = false := by rw [hl]; simp
    have HLL := Lib.hid hl
    clear hl
    go_enter Try.func58, Try.ntmps58
    go_wp2_with fail
    go_loopw [5] (fun i wr => ∃ (k : Nat), k ≤ xs.length ∧ xs.take k = ys.take k ∧ i = .int .i64 k ∧ Below w.heap.size w wr) (fun i _ => xs.length - (intOf i).toNat)
    case atStart => exact ⟨0, Nat.zero_le _, by simp, rfl, Below.refl _ _⟩
    case round =>
      obtain ⟨k, hk, hpre, rfl, hbw⟩ := hrel
      have HP := Lib.hid hpre
      clear hpre
      by_cases hlt : k < xs.length
      · have hlt' : k < ys.length := by have := HLL.out; omega
        obtain ⟨b, off, rfl, hbk, _, hcs⟩ := HA.out.at k (x := strV xs[k]) (by simp [hlt])
        obtain ⟨b', off', rfl, hbk', _, hcs'⟩ := HB.out.at k (x := strV ys[k]) (by simp [hlt'])
        have hc : wr.cell? ⟨b, off + k, none⟩ = some (.string ⟨(xs[k]).toArray⟩) := (hbw.cell (p := ⟨b, off + k, none⟩) hbk).trans (hcs k (strV xs[k]) (by simp [hlt]))
        have hc' : wr.cell? ⟨b', off' + k, none⟩ = some (.string ⟨(ys[k]).toArray⟩) := (hbw.cell (p := ⟨b', off' + k, none⟩) hbk').trans (hcs' k (strV ys[k]) (by simp [hlt']))
        have hi1 : (k : Int) < (xs.length : Int) := by omega
        have hi2 : (k : Int) < (ys.length : Int) := by omega
        clear hcs hcs'
        by_cases heq : xs[k] = ys[k]
        · have hst : xs.take (k + 1) = ys.take (k + 1) := by
            rw [List.take_succ_eq_append_getElem hlt, List.take_succ_eq_append_getElem hlt', HP.out, heq]
          have HS := Lib.hid hst
          clear hst
          rw [heq] at hc
          clear heq
          generalize ys[k] = y at *
          go_wp2_with fail
          go_quiet (fail)
          go_wp2_with fail
          go_roundw
          case rel => exact ⟨k + 1, by omega, HS.out, by go_num, below_drewN hbw _⟩
          case measure => simp [intOf]; omega
        · have hfin : sameTexts xs ys = false := by
            unfold sameTexts
            rw [beq_eq_false_iff_ne]
            rintro rfl
            exact heq rfl
          have HF := Lib.hid hfin
          clear hfin
          have hq : (xs[k] == ys[k]) = false := by simpa using heq
          have hq2 : (xs[k] != ys[k]) = true := by simpa using heq
          clear heq
          generalize xs[k] = x at *
          generalize ys[k] = y at *
          go_wp2_with fail
          go_quiet (fail)
          go_wp2_with fail
          go_ret
          exact ⟨by rw [HF.out]; rfl, below_drewN hbw _⟩
      · have hfin : sameTexts xs ys = true := by
          unfold sameTexts
          rw [beq_iff_eq]
          have h := HP.out
          rwa [List.take_of_length_le (by omega), List.take_of_length_le (by have := HLL.out; omega)] at h
        have HF := Lib.hid hfin
        clear hfin
        go_wp2_with fail
        go_ret
        exact ⟨by rw [HF.out]; rfl, hbw⟩
  · have hl1 : ((xs.length : Int) != (ys.length : Int)) = true := by simp; omega
    have hfin : sameTexts xs ys = false := by
      unfold sameTexts
      rw [beq_eq_false_iff_ne]
      rintro rfl
      exact hl rfl
    have HF := Lib.hid hfin
    clear hfin hl
    go_enter Try.func58, Try.ntmps58
    go_wp2_with fail
    go_ret
    exact ⟨by rw [HF.out]; rfl, Below.refl _ _⟩
end Go.Proofs.Ytpojhcpkmpbflaa
