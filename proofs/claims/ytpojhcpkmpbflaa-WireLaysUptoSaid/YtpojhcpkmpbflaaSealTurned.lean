/- seal.turned: the table of what each byte comes to. -/
import Derived.Test.YtpojhcpkmpbflaaRows
import Derived.Test.YtpojhcpkmpbflaaKit
import Derived.Test.YtpojhcpkmpbflaaPure02
namespace Go.Proofs.Ytpojhcpkmpbflaa
open Go.RowKit Copyhold

theorem u32_and1 (r : Nat) (h : r < 4294967296) : bits BinOp.and IntKind.u32 (r : Int) 1 = ((r % 2 : Nat) : Int) := by
  rw [show (1 : Int) = ((1 : Nat) : Int) from rfl, u32_and_nat r 1 h (by decide), nat_mask1]

theorem turned_one (r : Nat) (w : World) (h : r < 4294967296) :
    Calls Try.prog 87 #[.int .u32 r] w fun e w' => e = .returned (.int .u32 (crcT r)) ∧ w = w' := by
  have ha := u32_and1 r h
  have hx := u32_xor_nat (r / 2) 2197175160 (by omega) (by decide)
  by_cases hr : r % 2 = 1
  · have h2 : crcT r = (r / 2) ^^^ 2197175160 := if_pos hr
    rw [hr] at ha
    have H2 := Lib.hid h2
    have HX := Lib.hid hx
    clear h2 hx hr
    go_enter Try.func87, Try.ntmps87
    go_wp2
    go_ret
    exact ⟨ret_int (by rw [H2.out, ← HX.out]; rfl), rfl⟩
  · have h2 : crcT r = r / 2 := if_neg hr
    have h3 : r % 2 = 0 := by omega
    rw [h3] at ha
    have H2 := Lib.hid h2
    clear h2 hx hr h3
    go_enter Try.func87, Try.ntmps87
    go_wp2
    go_ret
    exact ⟨ret_int (by rw [H2.out]; rfl), rfl⟩

/-- the table as far as it is made -/
def tabV (k : Nat) : Array Value := ((List.range 256).map fun i => Value.int .u32 (if i < k then (crcT8 i : Int) else 0)).toArray
theorem tabV_size (k : Nat) : (tabV k).size = 256 := by simp [tabV]
theorem tabV_at (k i : Nat) (h : i < 256) : (tabV k)[i]? = some (.int .u32 (if i < k then (crcT8 i : Int) else 0)) := by simp [tabV, h]
theorem tabV_set (k : Nat) (h : k < 256) : (tabV k).setIfInBounds k (.int .u32 (crcT8 k)) = tabV (k + 1) := by
  apply Array.ext_getElem?
  intro i
  by_cases hi : i < 256
  · rw [Array.getElem?_setIfInBounds, tabV_at _ _ hi, tabV_at _ _ hi]
    by_cases hk : k = i
    · subst hk
      simp [tabV_size, h]
    · rw [if_neg hk]
      have e : (i < k) = (i < k + 1) := by simp only [eq_iff_iff]; omega
      simp only [e]
  · rw [Array.getElem?_eq_none (by rw [Array.size_setIfInBounds, tabV_size]; omega), Array.getElem?_eq_none (by rw [tabV_size]; omega)]
theorem tabV_plain (k : Nat) : (tabV k).all (·.oneCell') = true := by
  rw [Array.all_eq_true]
  intro i hi
  rw [tabV_size] at hi
  have := tabV_at k i hi
  rw [Array.getElem?_eq_getElem (by rw [tabV_size]; exact hi)] at this
  rw [Option.some.inj this]
  rfl

def crcN : Nat → Nat → Nat
  | 0, r => r
  | n + 1, r => crcT (crcN n r)
theorem crcN_lt (n r : Nat) (h : r < 4294967296) : crcN n r < 4294967296 := by
  induction n with
  | zero => exact h
  | succ n ih => exact crcT_lt _ ih

def tabW (w : World) (k : Nat) : World := (w.alloc (.cells (tabV 0) 133)).alloc (.cells (tabV k) 133)

theorem zero_tab (w : World) : Sem.run Try.prog (zeroValue 133) w = .ok (.agg (tabV 0)) w := by kernel_rfl
theorem info_tab : (Try.prog.info? 133).map (·.size) = some 256 := by kernel_rfl

set_option maxRecDepth 100000 in
set_option maxHeartbeats 1000000 in
theorem seal_turned (w : World) :
    Calls Try.prog 86 #[] w fun e w' => e = .returned (.agg (tabV 256)) ∧ Below w.heap.size w w' := by
  have hz := zero_tab
  go_enter Try.func86, Try.ntmps86
  go_wp2_with fail
  have e0 : (w.alloc (.cells (tabV 0) 133)).alloc (.cells (tabV 0) 133) = tabW w 0 := rfl
  rw [e0]
  clear e0 hz
  go_loopw [5] (fun i wr => ∃ k : Nat, k ≤ 256 ∧ i = .int .i64 k ∧ wr = tabW w k) (fun i _ => 256 - (intOf i).toNat)
  case atStart => exact ⟨0, by decide, rfl, rfl⟩
  case round =>
    obtain ⟨k, hk, rfl, rfl⟩ := hrel
    by_cases hlt : k < 256
    · have hkd : decide ((k : Int) < 256) = true := by simp; omega
      go_wp2_with fail
      clear hkd
      go_loop [4, 10] (fun r j => ∃ n : Nat, n ≤ 8 ∧ j = .int .i64 n ∧ r = .int .u32 (crcN n k)) (fun _ j => 8 - (intOf j).toNat)
      case atStart => exact ⟨0, by decide, rfl, rfl⟩
      case round =>
        obtain ⟨n, hn, rfl, rfl⟩ := hrel
        have hr := crcN_lt n k (by omega)
        by_cases hn8 : n < 8
        · go_wp2_with (go_at_call 87; refine (turned_one _ _ hr).mono ?_; rintro e w' ⟨rfl, rfl⟩)
          go_round
          case rel => exact ⟨n + 1, by omega, by go_num, rfl⟩
          case measure => simp [intOf]; omega
        · obtain rfl : n = 8 := by omega
          have e8 : crcN 8 k = crcT8 k := rfl
          rw [e8]
          have hc : (tabV k)[k]? = some (.int .u32 0) := by rw [tabV_at k k hlt, if_neg (by omega)]
          have HS := Lib.hid (tabV_set k hlt)
          have hki : (k : Int) < 256 := by omega
          clear e8 hn8
          unfold tabW
          go_wp2_with fail
          exact ⟨⟨k + 1, by omega, by go_num, by rw [HS.out]; rfl⟩, by simp [intOf]; omega⟩
    · obtain rfl : k = 256 := by omega
      go_wp2_with (first
        | (refine wpList_load_row rfl 133 _ rfl (w.heap.size + 1) rfl 133 (tabV 256) (0, 0) _ (heap_alloc2_new _ _ _) Try.underlying133 rfl (by rw [tabV_size]; exact info_tab) ?_)
        | (refine wpList_store_row rfl 133 _ _ rfl w.heap.size (tabV 256) rfl rfl 133 (tabV 0) (heap_alloc2_old _ _ _) (by rw [tabV_size]; exact info_tab) (by rw [tabV_size, tabV_size]) (tabV_plain _) ?_))
      have hh : ((tabW w 256).setRow w.heap.size (tabV 256)).heap[w.heap.size]? = some (.cells (tabV 256) 133 (0, 0)) := by
        exact setRow_heap _ _ (tabV 0) _ _ _ (heap_alloc2_old w (.cells (tabV 0) 133) (.cells (tabV 256) 133))
      refine bodyPost_ret (v := .agg (tabV 256)) (results_cell_row rfl _ _ w.heap.size 133 (tabV 256) (0, 0) _ rfl hh Try.underlying133 rfl (by rw [tabV_size]; exact info_tab)) rfl ⟨rfl, ?_⟩
      exact below_setRow (((Below.refl _ _).alloc (Nat.le_refl _) _).alloc (by simp) _) (Nat.le_refl _) _
end Go.Proofs.Ytpojhcpkmpbflaa
