/- The plain mathematics of layer 2 (seal): the check sum, byte by byte and by a table; that it tells one byte from another. Numbers and lists alone: nothing of the program. seal.turned: the table of what each byte comes to. seal.More, Sum, tail, Put, Take, Right: for every text they answer as the document says; old memory is as it was. copyholdref02: the document's own answers: More, Sum, four, Put, Take; old memory is as it was. The plain mathematics of layer 1 (octet): short numbers, texts and lists as rows of bytes, and what is taken of such rows. Lists and numbers alone: nothing of the program. octet.Num: for every number it returns the short number's bytes, and leaves old memory as it was. octet.lay, octet.Text: texts laid one behind the other; a text's bytes; old memory is as it was. For texts of fewer than 2^46 bytes. -/
import Derived.Laws.BytesArg
import Derived.Test.YtlcepboedifniaaGreatDoorRows
import Derived.Test.YtlcepboedifniaaGreatDoorMrgA
import Derived.Deep.QuietTactic
import Derived.BigQuiet
import Derived.Deep.RegionWith
import Derived.IntWalk
import Derived.Test.YtlcepboedifniaaGreatDoorShelf
namespace Copyhold
def crcT (r : Nat) : Nat := if r % 2 = 1 then (r / 2) ^^^ 2197175160 else r / 2
def crcT8 (r : Nat) : Nat := crcT (crcT (crcT (crcT (crcT (crcT (crcT (crcT r)))))))
def crcStep (c : Nat) (b : UInt8) : Nat := crcT8 (c ^^^ b.toNat)
def crcMore (c : Nat) (l : List UInt8) : Nat := l.foldl crcStep c
def crcSum (l : List UInt8) : Nat := crcMore 4294967295 l ^^^ 4294967295
def tailB (c : Nat) : List UInt8 := [UInt8.ofNat (c % 256), UInt8.ofNat (c / 256 % 256), UInt8.ofNat (c / 65536 % 256), UInt8.ofNat (c / 16777216 % 256)]
def putB (l : List UInt8) : List UInt8 := l ++ tailB (crcSum l)
theorem crcT_lt (r : Nat) (h : r < 4294967296) : crcT r < 4294967296 := by
  unfold crcT
  split
  · exact Nat.xor_lt_two_pow (n := 32) (by omega) (by decide)
  · omega
theorem crcT8_lt (r : Nat) (h : r < 4294967296) : crcT8 r < 4294967296 :=
  crcT_lt _ (crcT_lt _ (crcT_lt _ (crcT_lt _ (crcT_lt _ (crcT_lt _ (crcT_lt _ (crcT_lt _ h)))))))
theorem crcStep_lt (c : Nat) (b : UInt8) (h : c < 4294967296) : crcStep c b < 4294967296 := by
  have hb := b.toNat_lt
  exact crcT8_lt _ (Nat.xor_lt_two_pow (n := 32) (by omega) (by omega))
theorem crcMore_lt (l : List UInt8) : ∀ c, c < 4294967296 → crcMore c l < 4294967296 := by
  induction l with
  | nil => intro c h; exact h
  | cons b r ih => intro c h; exact ih _ (crcStep_lt c b h)
theorem crcSum_lt (l : List UInt8) : crcSum l < 4294967296 := Nat.xor_lt_two_pow (n := 32) (crcMore_lt l _ (by decide)) (by decide)
theorem crcT_xor (x y : Nat) : crcT (x ^^^ y) = crcT x ^^^ crcT y := by
  unfold crcT
  rw [Nat.xor_div_two]
  have hm : (x ^^^ y) % 2 = 1 ↔ ¬(x % 2 = 1 ↔ y % 2 = 1) := Nat.xor_mod_two_eq_one
  by_cases hx : x % 2 = 1 <;> by_cases hy : y % 2 = 1
  · rw [if_pos hx, if_pos hy, if_neg (by rw [hm]; simp [hx, hy]), Nat.xor_assoc, Nat.xor_comm 2197175160, Nat.xor_assoc (y / 2), Nat.xor_self, Nat.xor_zero]
  · rw [if_pos hx, if_neg hy, if_pos (by rw [hm]; simp [hx, hy]), Nat.xor_assoc, Nat.xor_comm (y / 2), ← Nat.xor_assoc]
  · rw [if_neg hx, if_pos hy, if_pos (by rw [hm]; simp [hx, hy]), Nat.xor_assoc]
  · rw [if_neg hx, if_neg hy, if_neg (by rw [hm]; simp [hx, hy])]
theorem crcT8_xor (x y : Nat) : crcT8 (x ^^^ y) = crcT8 x ^^^ crcT8 y := by simp only [crcT8, crcT_xor]
theorem crcT_even (m : Nat) : crcT (2 * m) = m := by unfold crcT; rw [if_neg (by omega)]; omega
theorem crcT8_high (h : Nat) : crcT8 (256 * h) = h := by
  unfold crcT8
  rw [show 256 * h = 2 * (128 * h) from by omega, crcT_even, show 128 * h = 2 * (64 * h) from by omega, crcT_even, show 64 * h = 2 * (32 * h) from by omega, crcT_even,
    show 32 * h = 2 * (16 * h) from by omega, crcT_even, show 16 * h = 2 * (8 * h) from by omega, crcT_even, show 8 * h = 2 * (4 * h) from by omega, crcT_even,
    show 4 * h = 2 * (2 * h) from by omega, crcT_even, crcT_even]
theorem split256 (c : Nat) : c = (256 * (c / 256)) ^^^ (c % 256) := by
  have h := Nat.two_pow_add_eq_or_of_lt (i := 8) (b := c % 256) (Nat.mod_lt _ (by decide)) (c / 256)
  have e : 2 ^ 8 * (c / 256) + c % 256 = c := by omega
  apply Nat.eq_of_testBit_eq
  intro i
  rw [Nat.testBit_xor]
  conv => lhs; rw [← e]
  rw [h, Nat.testBit_or, show 256 * (c / 256) = 2 ^ 8 * (c / 256) from rfl, Nat.testBit_two_pow_mul, show c % 256 = c % 2 ^ 8 from rfl, Nat.testBit_mod_two_pow]
  by_cases h8 : 8 ≤ i
  · have : ¬ i < 8 := by omega
    simp [this]
  · simp [h8]
theorem crcStep_table (c : Nat) (b : UInt8) : crcStep c b = (c / 256) ^^^ crcT8 ((c % 256) ^^^ b.toNat) := by
  unfold crcStep
  conv => lhs; rw [split256 c]
  rw [Nat.xor_assoc, crcT8_xor, crcT8_high]
theorem crcMore_append (c : Nat) (a b : List UInt8) : crcMore c (a ++ b) = crcMore (crcMore c a) b := by simp [crcMore, List.foldl_append]
theorem tailB_len (c : Nat) : (tailB c).length = 4 := rfl
end Copyhold

namespace Go.Proofs.YtlcepboedifniaaGreatDoor
open Go.RowKit Copyhold
theorem u32_and1 (r : Nat) (h : r < 4294967296) : bits BinOp.and IntKind.u32 (r : Int) 1 = ((r % 2 : Nat) : Int) := by
  rw [show (1 : Int) = ((1 : Nat) : Int) from rfl, u32_and_nat r 1 h (by decide), nat_mask1]
theorem turned_one (r : Nat) (w : World) (h : r < 4294967296) :
    Calls Tryz.prog 97 #[.int .u32 r] w fun e w' => e = .returned (.int .u32 (crcT r)) ∧ w = w' := by
  have ha := u32_and1 r h
  have hx := u32_xor_nat (r / 2) 2197175160 (by omega) (by decide)
  by_cases hr : r % 2 = 1
  · have h2 : crcT r = (r / 2) ^^^ 2197175160 := if_pos hr
    rw [hr] at ha
    have H2 := Lib.hid h2
    have HX := Lib.hid hx
    clear h2 hx hr
    go_enter Tryz.func97, Tryz.ntmps97
    go_wp2
    go_ret
    exact ⟨ret_int (by rw [H2.out, ← HX.out]; rfl), rfl⟩
  · have h2 : crcT r = r / 2 := if_neg hr
    have h3 : r % 2 = 0 := by omega
    rw [h3] at ha
    have H2 := Lib.hid h2
    clear h2 hx hr h3
    go_enter Tryz.func97, Tryz.ntmps97
    go_wp2
    go_ret
    exact ⟨ret_int (by rw [H2.out]; rfl), rfl⟩
def tabV (k : Nat) : Array Value := ((List.range 256).map fun i => Value.int .u32 (if i < k then (crcT8 i : Int) else 0)).toArray
theorem tabV_size (k : Nat) : (tabV k).size = 256 := by simp [tabV]
theorem tabV_at (k i : Nat) (h : i < 256) : (tabV k)[i]? = some (.int .u32 (if i < k then (crcT8 i : Int) else 0)) := by simp [tabV, h]
theorem tabV_set (k : Nat) (h : k < 256) : (tabV k).setIfInBounds k (.int .u32 (crcT8 k)) = tabV (k + 1) := by
  apply Array.ext_getElem?
  intro i
  by_cases hi : i < 256
  · rw [Array.getElem?_setIfInBounds, tabV_at _ _ hi, tabV_at _ _ hi]
    by_cases hk : k = i
    · subst hk
      simp [tabV_size, h]
    · rw [if_neg hk]
      have e : (i < k) = (i < k + 1) := by simp only [eq_iff_iff]; omega
      simp only [e]
  · rw [Array.getElem?_eq_none (by rw [Array.size_setIfInBounds, tabV_size]; omega), Array.getElem?_eq_none (by rw [tabV_size]; omega)]
theorem tabV_plain (k : Nat) : (tabV k).all (·.oneCell') = true := by
  rw [Array.all_eq_true]
  intro i hi
  rw [tabV_size] at hi
  have := tabV_at k i hi
  rw [Array.getElem?_eq_getElem (by rw [tabV_size]; exact hi)] at this
  rw [Option.some.inj this]
  rfl
def crcN : Nat → Nat → Nat
  | 0, r => r
  | n + 1, r => crcT (crcN n r)
theorem crcN_lt (n r : Nat) (h : r < 4294967296) : crcN n r < 4294967296 := by
  induction n with
  | zero => exact h
  | succ n ih => exact crcT_lt _ ih
def tabW (w : World) (k : Nat) : World := (w.alloc (.cells (tabV 0) 130)).alloc (.cells (tabV k) 130)
theorem zero_tab (w : World) : Sem.run Tryz.prog (zeroValue 130) w = .ok (.agg (tabV 0)) w := by kernel_rfl
theorem info_tab : (Tryz.prog.info? 130).map (·.size) = some 256 := by kernel_rfl
set_option maxRecDepth 100000 in
set_option maxHeartbeats 1000000 in
theorem seal_turned (w : World) :
    Calls Tryz.prog 84 #[] w fun e w' => e = .returned (.agg (tabV 256)) ∧ Below w.heap.size w w' := by
  have hz := zero_tab
  go_enter Tryz.func84, Tryz.ntmps84
  go_wp2_with fail
  have e0 : (w.alloc (.cells (tabV 0) 130)).alloc (.cells (tabV 0) 130) = tabW w 0 := rfl
  rw [e0]
  clear e0 hz
  go_loopw [5] (fun i wr => ∃ k : Nat, k ≤ 256 ∧ i = .int .i64 k ∧ wr = tabW w k) (fun i _ => 256 - (intOf i).toNat)
  case atStart => exact ⟨0, by decide, rfl, rfl⟩
  case round =>
    obtain ⟨k, hk, rfl, rfl⟩ := hrel
    by_cases hlt : k < 256
    · have hkd : decide ((k : Int) < 256) = true := by simp; omega
      go_wp2_with fail
      clear hkd
      go_loop [4, 10] (fun r j => ∃ n : Nat, n ≤ 8 ∧ j = .int .i64 n ∧ r = .int .u32 (crcN n k)) (fun _ j => 8 - (intOf j).toNat)
      case atStart => exact ⟨0, by decide, rfl, rfl⟩
      case round =>
        obtain ⟨n, hn, rfl, rfl⟩ := hrel
        have hr := crcN_lt n k (by omega)
        by_cases hn8 : n < 8
        · go_wp2_with (go_at_call 97; refine (turned_one _ _ hr).mono ?_; rintro e w' ⟨rfl, rfl⟩)
          go_round
          case rel => exact ⟨n + 1, by omega, by go_num, rfl⟩
          case measure => simp [intOf]; omega
        · obtain rfl : n = 8 := by omega
          have e8 : crcN 8 k = crcT8 k := rfl
          rw [e8]
          have hc : (tabV k)[k]? = some (.int .u32 0) := by rw [tabV_at k k hlt, if_neg (by omega)]
          have HS := Lib.hid (tabV_set k hlt)
          have hki : (k : Int) < 256 := by omega
          clear e8 hn8
          unfold tabW
          go_wp2_with fail
          exact ⟨⟨k + 1, by omega, by go_num, by rw [HS.out]; rfl⟩, by simp [intOf]; omega⟩
    · obtain rfl : k = 256 := by omega
      go_wp2_with (first
        | (refine wpList_load_row rfl 130 _ rfl (w.heap.size + 1) rfl 130 (tabV 256) (0, 0) _ (heap_alloc2_new _ _ _) Tryz.underlying130 rfl (by rw [tabV_size]; exact info_tab) ?_)
        | (refine wpList_store_row rfl 130 _ _ rfl w.heap.size (tabV 256) rfl rfl 130 (tabV 0) (heap_alloc2_old _ _ _) (by rw [tabV_size]; exact info_tab) (by rw [tabV_size, tabV_size]) (tabV_plain _) ?_))
      have hh : ((tabW w 256).setRow w.heap.size (tabV 256)).heap[w.heap.size]? = some (.cells (tabV 256) 130 (0, 0)) := by
        exact setRow_heap _ _ (tabV 0) _ _ _ (heap_alloc2_old w (.cells (tabV 0) 130) (.cells (tabV 256) 130))
      refine bodyPost_ret (v := .agg (tabV 256)) (results_cell_row rfl _ _ w.heap.size 130 (tabV 256) (0, 0) _ rfl hh Tryz.underlying130 rfl (by rw [tabV_size]; exact info_tab)) rfl ⟨rfl, ?_⟩
      exact below_setRow (((Below.refl _ _).alloc (Nat.le_refl _) _).alloc (by simp) _) (Nat.le_refl _) _
end Go.Proofs.YtlcepboedifniaaGreatDoor

namespace Go.Proofs.YtlcepboedifniaaGreatDoor
open Go.RowKit Copyhold
attribute [local go_sem] piece
set_option maxRecDepth 100000 in
set_option maxHeartbeats 1000000 in
theorem seal_More (c : Nat) (l : List UInt8) (w : World) (hc : c < 4294967296) (hl : l.length ≤ 140737488355328) :
    Calls Tryz.prog 68 #[.int .u32 c, .string ⟨l.toArray⟩] w fun e w' => e = .returned (.int .u32 (crcMore c l)) ∧ Below w.heap.size w w' := by
  have hz := zero_tab
  go_enter Tryz.func68, Tryz.ntmps68
  go_wp2_with fail
  refine (seal_turned _).mono ?_
  rintro e w1 ⟨rfl, hb1⟩
  have hs1 := hb1.size
  go_wp2_with (refine wpList_store_row rfl 130 _ _ rfl w1.heap.size (tabV 256) rfl rfl 130 (tabV 0) (heap_alloc_new _ _) (by rw [tabV_size]; exact info_tab) (by rw [tabV_size, tabV_size]) (tabV_plain _) ?_)
  have hW : ((w1.alloc (.cells (tabV 0) 130)).setRow w1.heap.size (tabV 256)).heap[w1.heap.size]? = some (.cells (tabV 256) 130 (0, 0)) := setRow_heap _ _ (tabV 0) _ _ _ (heap_alloc_new w1 _)
  have hbW : Below w.heap.size w ((w1.alloc (.cells (tabV 0) 130)).setRow w1.heap.size (tabV 256)) := below_setRow (hb1.alloc hs1 _) hs1 _
  clear hz
  generalize (w1.alloc (.cells (tabV 0) 130)).setRow w1.heap.size (tabV 256) = W at *
  have HW := Lib.hid hW
  clear hW
  go_wp2_with fail
  go_loop [0, 10] (fun r i => ∃ (k d : Nat), k ≤ l.length ∧ d = crcMore c (l.take k) ∧ i = .int .i64 k ∧ r = .int .u32 d) (fun _ i => l.length - (intOf i).toNat)
  case atStart => exact ⟨0, c, Nat.zero_le _, rfl, rfl, rfl⟩
  case round =>
    obtain ⟨k, d, hk, hd, rfl, rfl⟩ := hrel
    have hdl : d < 4294967296 := by rw [hd]; exact crcMore_lt _ _ hc
    have HD := Lib.hid hd
    clear hd
    by_cases hlt : k < l.length
    · have hbb : l[k].toNat < 256 := l[k].toNat_lt
      have hbi : (⟨l.toArray⟩ : ByteArray)[k]'(by simpa [ByteArray.size] using hlt) = l[k] := rfl
      have hx : bits BinOp.xor IntKind.u8 ((d : Int) % 256) (l[k].toNat : Int) = ((d % 256 ^^^ l[k].toNat : Nat) : Int) := u8_xor_nat (d % 256) l[k].toNat (by omega) hbb
      have hil : d % 256 ^^^ l[k].toNat < 256 := Nat.xor_lt_two_pow (n := 8) (by omega) hbb
      have hcell : W.cell? ⟨w1.heap.size, d % 256 ^^^ l[k].toNat, none⟩ = some (.int .u32 (crcT8 (d % 256 ^^^ l[k].toNat))) := by
        rw [cell_of_row W _ _ _ _ _ HW.out, tabV_at _ _ hil, if_pos hil]
      have hy : bits BinOp.xor IntKind.u32 ((d : Int) / 256) (crcT8 (d % 256 ^^^ l[k].toNat) : Int) = ((crcStep d l[k] : Nat) : Int) := by
        rw [crcStep_table]
        exact u32_xor_nat (d / 256) _ (by omega) (crcT8_lt _ (by omega))
      have hst : crcMore c (l.take (k + 1)) = crcStep (crcMore c (l.take k)) l[k] := by
        rw [List.take_succ_eq_append_getElem hlt, crcMore_append]; rfl
      have HS := Lib.hid hst
      clear hst
      generalize l[k] = b at *
      generalize d % 256 ^^^ b.toNat = i at *
      go_wp2_with fail
      go_round
      case rel => exact ⟨k + 1, crcStep d b, by omega, by rw [HS.out, HD.out], by go_num, rfl⟩
      case measure => simp [intOf]; omega
    · have hfin : d = crcMore c l := by rw [HD.out, List.take_of_length_le (by omega)]
      have HF := Lib.hid hfin
      clear hfin
      go_wp2_with fail
      go_ret
      exact ⟨by rw [← HF.out]; rfl, hbW⟩
set_option maxHeartbeats 1000000 in
theorem seal_Sum (l : List UInt8) (w : World) (hl : l.length ≤ 140737488355328) :
    Calls Tryz.prog 55 #[.string ⟨l.toArray⟩] w fun e w' => e = .returned (.int .u32 (crcSum l)) ∧ Below w.heap.size w w' := by
  have hm := crcMore_lt l 4294967295 (by decide)
  go_enter Tryz.func55, Tryz.ntmps55
  go_wp2_with fail
  refine (seal_More 4294967295 l _ (by decide) hl).mono ?_
  rintro e w1 ⟨rfl, hb1⟩
  go_wp2_with fail
  go_ret
  exact ⟨ret_int (by
    rw [show IntKind.u32.max = ((4294967295 : Nat) : Int) from rfl, u32_xor_nat _ _ (by decide) hm, Nat.xor_comm]; rfl), hb1⟩
set_option maxHeartbeats 1000000 in
theorem seal_tail (l : List UInt8) (w : World) (hl : l.length ≤ 140737488355328) :
    Calls Tryz.prog 44 #[.string ⟨l.toArray⟩] w fun e w' => e = .returned (.string ⟨(tailB (crcSum l)).toArray⟩) ∧ Below w.heap.size w w' := by
  have hm := crcSum_lt l
  go_enter Tryz.func44, Tryz.ntmps44
  go_wp2_with fail
  refine (seal_Sum l _ hl).mono ?_
  rintro e w1 ⟨rfl, hb1⟩
  have hs1 := hb1.size
  obtain ⟨c, hce⟩ : ∃ c, c = crcSum l := ⟨_, rfl⟩
  rw [← hce] at hm ⊢
  have HC := Lib.hid hce
  clear hce
  have hcv : (convert 63 9 (.slice (some ⟨w1.heap.size, 0, none⟩) 4 4)).run Tryz.prog (w1.alloc (.cells #[.int .u8 ((c : Int) % 256), .int .u8 ((c : Int) / 256 % 256), .int .u8 ((c : Int) / 65536 % 256), .int .u8 ((c : Int) / 16777216)] 5)) = .ok (.string ⟨(tailB c).toArray⟩) (w1.alloc (.cells #[.int .u8 ((c : Int) % 256), .int .u8 ((c : Int) / 256 % 256), .int .u8 ((c : Int) / 65536 % 256), .int .u8 ((c : Int) / 16777216)] 5)) := by
    have h := run_convert_own (P := Tryz.prog) (xs := [(c : Int) % 256, (c : Int) / 256 % 256, (c : Int) / 65536 % 256, (c : Int) / 16777216]) 63 9 Tryz.underlying63 Tryz.underlying5 Tryz.underlying9
      (owns_built (w := w1) (base := 0) #[.int .u8 ((c : Int) % 256), .int .u8 ((c : Int) / 256 % 256), .int .u8 ((c : Int) / 65536 % 256), .int .u8 ((c : Int) / 16777216)] (Nat.zero_le _) (by simp [maxLen]))
    have e : strOfNums [(c : Int) % 256, (c : Int) / 256 % 256, (c : Int) / 65536 % 256, (c : Int) / 16777216] = ⟨(tailB c).toArray⟩ := by
      simp only [strOfNums, tailB, List.map_cons, List.map_nil]
      rw [show ((c : Int) % 256).toNat = c % 256 from by omega, show ((c : Int) / 256 % 256).toNat = c / 256 % 256 from by omega, show ((c : Int) / 65536 % 256).toNat = c / 65536 % 256 from by omega, show ((c : Int) / 16777216).toNat = c / 16777216 % 256 from by omega]
    rw [e] at h
    exact h
  go_wp2_with fail
  go_ret
  exact ⟨by rw [← HC.out]; rfl, hb1.alloc hs1 _⟩
set_option maxHeartbeats 1000000 in
theorem seal_Put (l : List UInt8) (w : World) (hl : l.length ≤ 140737488355300) :
    Calls Tryz.prog 30 #[.string ⟨l.toArray⟩] w fun e w' => e = .returned (.string ⟨(putB l).toArray⟩) ∧ Below w.heap.size w w' := by
  have ht := tailB_len (crcSum l)
  have hp : l ++ tailB (crcSum l) = putB l := rfl
  go_enter Tryz.func30, Tryz.ntmps30
  go_wp2_with fail
  refine (seal_tail l _ (by omega)).mono ?_
  rintro e w1 ⟨rfl, hb1⟩
  go_wp2_with fail
  go_ret
  exact ⟨rfl, hb1⟩
end Go.Proofs.YtlcepboedifniaaGreatDoor

namespace Go.Proofs.YtlcepboedifniaaGreatDoor
open Go.RowKit Copyhold
attribute [local go_sem] piece
set_option maxRecDepth 100000 in
set_option maxHeartbeats 1000000 in
theorem ref_More (c : Nat) (l : List UInt8) (w : World) (hc : c < 4294967296) (hl : l.length ≤ 140737488355328) :
    Calls Tryz.prog 56 #[.int .u32 c, .string ⟨l.toArray⟩] w fun e w' => e = .returned (.int .u32 (crcMore c l)) ∧ w = w' := by
  go_enter Tryz.func56, Tryz.ntmps56
  go_wp2_with fail
  go_loop [0, 5] (fun r i => ∃ (k d : Nat), k ≤ l.length ∧ d = crcMore c (l.take k) ∧ i = .int .i64 k ∧ r = .int .u32 d) (fun _ i => l.length - (intOf i).toNat)
  case atStart => exact ⟨0, c, Nat.zero_le _, rfl, rfl, rfl⟩
  case round =>
    obtain ⟨k, d, hk, hd, rfl, rfl⟩ := hrel
    have hdl : d < 4294967296 := by rw [hd]; exact crcMore_lt _ _ hc
    have HD := Lib.hid hd
    clear hd
    by_cases hlt : k < l.length
    · have hbb : l[k].toNat < 256 := l[k].toNat_lt
      have hbi : (⟨l.toArray⟩ : ByteArray)[k]'(by simpa [ByteArray.size] using hlt) = l[k] := rfl
      have hx : bits BinOp.xor IntKind.u32 (d : Int) (l[k].toNat : Int) = ((d ^^^ l[k].toNat : Nat) : Int) := u32_xor_nat d l[k].toNat hdl (by omega)
      have hst : crcMore c (l.take (k + 1)) = crcT8 (crcMore c (l.take k) ^^^ l[k].toNat) := by
        rw [List.take_succ_eq_append_getElem hlt, crcMore_append]; rfl
      have hxl : d ^^^ l[k].toNat < 4294967296 := Nat.xor_lt_two_pow (n := 32) hdl (by omega)
      have HS := Lib.hid hst
      have hkd : decide (k < l.length) = true := by simpa using hlt
      clear hst
      generalize l[k] = b at *
      generalize hxx : d ^^^ b.toNat = x at *
      have HX := Lib.hid hxx
      clear hxx
      go_wp2_with fail
      clear hbi hx hkd
      go_loop [0, 6] (fun r j => ∃ n : Nat, n ≤ 8 ∧ j = .int .i64 n ∧ r = .int .u32 (crcN n x)) (fun _ j => 8 - (intOf j).toNat)
      case atStart => exact ⟨0, by decide, rfl, rfl⟩
      case round =>
        obtain ⟨n, hn, rfl, rfl⟩ := hrel
        have hr := crcN_lt n x hxl
        by_cases hn8 : n < 8
        · by_cases h1 : crcN n x % 2 = 1
          · have h2 : crcN (n + 1) x = crcN n x / 2 ^^^ 2197175160 := if_pos h1
            have hx2 := u32_xor_nat (crcN n x / 2) 2197175160 (by omega) (by decide)
            have H2 := Lib.hid h2
            have HX2 := Lib.hid hx2
            have h3 : ((crcN n x : Int) % 2 == 1) = true := by rw [beq_iff_eq]; omega
            clear h2 hx2 h1
            generalize crcN n x = r at *
            go_wp2_with fail
            go_round
            case rel => exact ⟨n + 1, by omega, by go_num, congrArg (Value.int .u32) (by rw [H2.out]; exact HX2.out)⟩
            case measure => simp [intOf]; omega
          · have h2 : crcN (n + 1) x = crcN n x / 2 := if_neg h1
            have H2 := Lib.hid h2
            have h3 : ((crcN n x : Int) % 2 == 1) = false := by rw [beq_eq_false_iff_ne]; omega
            clear h2 h1
            generalize crcN n x = r at *
            go_wp2_with fail
            go_round
            case rel => exact ⟨n + 1, by omega, by go_num, congrArg (Value.int .u32) (by rw [H2.out]; rfl)⟩
            case measure => simp [intOf]; omega
        · obtain rfl : n = 8 := by omega
          go_wp2_with fail
          exact ⟨⟨k + 1, crcT8 x, by omega, by rw [HS.out, ← HX.out, HD.out], by go_num, rfl⟩, by simp [intOf]; omega⟩
    · have hfin : d = crcMore c l := by rw [HD.out, List.take_of_length_le (by omega)]
      have HF := Lib.hid hfin
      clear hfin
      go_wp2_with fail
      go_ret
      exact ⟨by rw [← HF.out]; rfl, rfl⟩
theorem ref_Sum (l : List UInt8) (w : World) (hl : l.length ≤ 140737488355328) :
    Calls Tryz.prog 48 #[.string ⟨l.toArray⟩] w fun e w' => e = .returned (.int .u32 (crcSum l)) ∧ w = w' := by
  have hm := crcMore_lt l 4294967295 (by decide)
  go_enter Tryz.func48, Tryz.ntmps48
  go_wp2_with fail
  refine (ref_More 4294967295 l _ (by decide) hl).mono ?_
  rintro e w1 ⟨rfl, rfl⟩
  go_wp2_with fail
  go_ret
  exact ⟨ret_int (u32_xor_nat _ 4294967295 hm (by decide)), rfl⟩
set_option maxHeartbeats 1000000 in
theorem ref_four (c : Nat) (w : World) (hm : c < 4294967296) :
    Calls Tryz.prog 47 #[.int .u32 c] w fun e w' => e = .returned (.string ⟨(tailB c).toArray⟩) ∧ Below w.heap.size w w' := by
  have hcv : (convert 63 9 (.slice (some ⟨w.heap.size, 0, none⟩) 4 4)).run Tryz.prog (w.alloc (.cells #[.int .u8 ((c : Int) % 256), .int .u8 ((c : Int) / 256 % 256), .int .u8 ((c : Int) / 65536 % 256), .int .u8 ((c : Int) / 16777216)] 5)) = .ok (.string ⟨(tailB c).toArray⟩) (w.alloc (.cells #[.int .u8 ((c : Int) % 256), .int .u8 ((c : Int) / 256 % 256), .int .u8 ((c : Int) / 65536 % 256), .int .u8 ((c : Int) / 16777216)] 5)) := by
    have h := run_convert_own (P := Tryz.prog) (xs := [(c : Int) % 256, (c : Int) / 256 % 256, (c : Int) / 65536 % 256, (c : Int) / 16777216]) 63 9 Tryz.underlying63 Tryz.underlying5 Tryz.underlying9
      (owns_built (w := w) (base := 0) #[.int .u8 ((c : Int) % 256), .int .u8 ((c : Int) / 256 % 256), .int .u8 ((c : Int) / 65536 % 256), .int .u8 ((c : Int) / 16777216)] (Nat.zero_le _) (by simp [maxLen]))
    have e : strOfNums [(c : Int) % 256, (c : Int) / 256 % 256, (c : Int) / 65536 % 256, (c : Int) / 16777216] = ⟨(tailB c).toArray⟩ := by
      simp only [strOfNums, tailB, List.map_cons, List.map_nil]
      rw [show ((c : Int) % 256).toNat = c % 256 from by omega, show ((c : Int) / 256 % 256).toNat = c / 256 % 256 from by omega, show ((c : Int) / 65536 % 256).toNat = c / 65536 % 256 from by omega, show ((c : Int) / 16777216).toNat = c / 16777216 % 256 from by omega]
    rw [e] at h
    exact h
  go_enter Tryz.func47, Tryz.ntmps47
  go_wp2_with fail
  go_ret
  exact ⟨rfl, (Below.refl _ _).alloc (Nat.le_refl _) _⟩
theorem ref_Put (l : List UInt8) (w : World) (hl : l.length ≤ 140737488355300) :
    Calls Tryz.prog 33 #[.string ⟨l.toArray⟩] w fun e w' => e = .returned (.string ⟨(putB l).toArray⟩) ∧ Below w.heap.size w w' := by
  have ht := tailB_len (crcSum l)
  have hp : l ++ tailB (crcSum l) = putB l := rfl
  have hs := crcSum_lt l
  go_enter Tryz.func33, Tryz.ntmps33
  go_wp2_with fail
  refine (ref_Sum l _ (by omega)).mono ?_
  rintro e w1 ⟨rfl, rfl⟩
  go_wp2_with fail
  refine (ref_four _ _ hs).mono ?_
  rintro e w2 ⟨rfl, hb2⟩
  go_wp2_with fail
  go_ret
  exact ⟨rfl, hb2⟩
end Go.Proofs.YtlcepboedifniaaGreatDoor

namespace Copyhold
def numB (n : Nat) : List UInt8 := if n < 128 then [UInt8.ofNat n] else UInt8.ofNat (n % 128 + 128) :: numB (n / 128)
termination_by n
decreasing_by omega
theorem numB_small {n : Nat} (h : n < 128) : numB n = [UInt8.ofNat n] := by rw [numB, if_pos h]
theorem numB_big {n : Nat} (h : ¬ n < 128) : numB n = UInt8.ofNat (n % 128 + 128) :: numB (n / 128) := by rw [numB, if_neg h]
theorem numB_pos (n : Nat) : 1 ≤ (numB n).length := by rw [numB]; split <;> simp
theorem numB_len (n : Nat) (k : Nat) (h : n < 2 ^ (7 * (k + 1))) : (numB n).length ≤ k + 1 := by
  induction k generalizing n with
  | zero => rw [numB_small (by simpa using h)]; simp
  | succ k ih =>
    by_cases hs : n < 128
    · rw [numB_small hs]; simp
    · rw [numB_big hs]
      simp only [List.length_cons]
      have := ih (n / 128) (by
        rw [Nat.div_lt_iff_lt_mul (by omega)]
        have e : 2 ^ (7 * (k + 1)) * 128 = 2 ^ (7 * (k + 1 + 1)) := by
          rw [show 7 * (k + 1 + 1) = 7 * (k + 1) + 7 from by omega, Nat.pow_add]
        omega)
      omega
theorem numB_len10 (n : Nat) (h : n < 18446744073709551616) : (numB n).length ≤ 10 := numB_len n 9 (by omega)
def textB (l : List UInt8) : List UInt8 := numB l.length ++ l
theorem textB_len (l : List UInt8) (h : l.length < 18446744073709551616) : (textB l).length ≤ l.length + 10 := by
  have := numB_len10 l.length h
  simp only [textB, List.length_append]; omega
theorem intercalate_nil : ∀ xs : List (List UInt8), List.intercalate [] xs = xs.flatten
  | [] => rfl
  | [x] => by simp [List.intercalate]
  | x :: y :: r => by
    have h := intercalate_nil (y :: r)
    simp only [List.intercalate, List.intersperse_cons_cons, List.flatten_cons, List.nil_append] at h ⊢
    rw [h]
def tnGo (k acc : Nat) : List UInt8 → Nat × List UInt8 × Int
  | [] => if k < 10 then (0, [], 2) else (0, [], 3)
  | b :: r => if k < 10 then
      (if b.toNat < 128 then (if k = 9 ∧ 1 < b.toNat ∨ 0 < k ∧ b.toNat = 0 then (0, [], 3) else (acc + b.toNat * 128 ^ k, r, 0))
       else tnGo (k + 1) (acc + (b.toNat % 128) * 128 ^ k) r)
    else (0, [], 3)
def takeNum (l : List UInt8) : Nat × List UInt8 × Int := tnGo 0 0 l
def takeCount (l : List UInt8) (most : Int) : Nat × List UInt8 × Int :=
  if (takeNum l).2.2 ≠ 0 then (0, [], (takeNum l).2.2) else if most < 0 ∨ most < ((takeNum l).1 : Int) then (0, [], 5) else takeNum l
def takeText (l : List UInt8) (most : Int) : List UInt8 × List UInt8 × Int :=
  if (takeCount l most).2.2 ≠ 0 then ([], [], (takeCount l most).2.2)
  else if (takeCount l most).2.1.length < (takeCount l most).1 then ([], [], 2)
  else ((takeCount l most).2.1.take (takeCount l most).1, (takeCount l most).2.1.drop (takeCount l most).1, 0)
theorem tnGo_bd : ∀ (l : List UInt8) (k acc : Nat), acc < 128 ^ k → k ≤ 10 → (tnGo k acc l).1 < 18446744073709551616 ∧ (tnGo k acc l).2.1.length ≤ l.length ∧ 0 ≤ (tnGo k acc l).2.2 ∧ (tnGo k acc l).2.2 ≤ 3
  | [], k, acc, _, _ => by rw [tnGo]; split <;> simp
  | b :: r, k, acc, h, hk => by
    rw [tnGo]
    have hb := b.toNat_lt
    split
    · split
      · split
        · simp
        · rename_i h1 h2 h3
          refine ⟨?_, by simp, by simp, by simp⟩
          show acc + b.toNat * 128 ^ k < _
          by_cases h9 : k = 9
          · subst h9
            have : b.toNat ≤ 1 := by omega
            have e : (128 : Nat) ^ 9 = 9223372036854775808 := by decide
            rw [e] at h ⊢
            have := Nat.mul_le_mul_right 9223372036854775808 this
            omega
          · have e : (128 : Nat) ^ k ≤ 128 ^ 8 := Nat.pow_le_pow_right (by decide) (by omega)
            have e8 : (128 : Nat) ^ 8 = 72057594037927936 := by decide
            rw [e8] at e
            have : b.toNat * 128 ^ k ≤ 127 * 72057594037927936 := Nat.mul_le_mul (by omega) e
            omega
      · rename_i h1 h2
        have := tnGo_bd r (k + 1) (acc + b.toNat % 128 * 128 ^ k) (by
          have e : (128 : Nat) ^ (k + 1) = 128 ^ k * 128 := Nat.pow_succ ..
          have hm : b.toNat % 128 ≤ 127 := by omega
          have := Nat.mul_le_mul_right (128 ^ k) hm
          omega) (by omega)
        simp only [List.length_cons]
        omega
    · simp
theorem takeNum_bd (l : List UInt8) : (takeNum l).1 < 18446744073709551616 ∧ (takeNum l).2.1.length ≤ l.length ∧ 0 ≤ (takeNum l).2.2 ∧ (takeNum l).2.2 ≤ 3 := tnGo_bd l 0 0 (by decide) (by decide)
theorem takeCount_bd (l : List UInt8) (most : Int) : (takeCount l most).1 < 18446744073709551616 ∧ (takeCount l most).2.1.length ≤ l.length ∧ 0 ≤ (takeCount l most).2.2 ∧ (takeCount l most).2.2 ≤ 5 := by
  have := takeNum_bd l
  unfold takeCount
  split
  · simp; omega
  · split
    · simp
    · omega
theorem takeText_bd (l : List UInt8) (most : Int) : (takeText l most).1.length ≤ l.length ∧ (takeText l most).2.1.length ≤ l.length ∧ 0 ≤ (takeText l most).2.2 ∧ (takeText l most).2.2 ≤ 5 := by
  have := takeCount_bd l most
  unfold takeText
  split
  · simp; omega
  · split
    · simp
    · simp only [List.length_take, List.length_drop]
      omega
end Copyhold

namespace Go.Proofs.YtlcepboedifniaaGreatDoor
open Go.RowKit Copyhold
theorem info_u8 : (Tryz.prog.info? 5).map (fun i => (i.zero, i.size, i.bytes)) = some (some (.int .u8 0), 1, 1) := by kernel_rfl
theorem byte_or128 (k : Int) (h : 0 ≤ k) : bits BinOp.or IntKind.u8 (k % 256) 128 = ((k.toNat % 128 + 128 : Nat) : Int) := by
  rw [u8_or _ _ (by omega) (by omega) (by omega) (by omega)]
  congr 1
  have e : (k % 256).toNat = k.toNat % 256 := by omega
  rw [e, show (128 : Int).toNat = 128 from rfl]
  have h256 : k.toNat % 256 < 256 := Nat.mod_lt _ (by decide)
  have h2 : k.toNat % 128 = (k.toNat % 256) % 128 := by omega
  rw [h2]
  generalize k.toNat % 256 = m at h256
  revert m
  decide +kernel
def NumRel (w : World) (n k : Int) (v : Value) (wr : World) : Prop :=
  ∃ xs : List Int, 0 ≤ k ∧ k ≤ n ∧ (xs.map fun n => UInt8.ofNat n.toNat) ++ numB k.toNat = numB n.toNat ∧ wr.ownsRow w.heap.size 5 1 v xs.length (xs.map (Value.int .u8)) ∧ Below w.heap.size w wr
set_option maxRecDepth 100000 in
set_option maxHeartbeats 400000 in
theorem octet_Num (n : Int) (w : World) (h0 : 0 ≤ n) (h : n ≤ 18446744073709551615) :
    Calls Tryz.prog 46 #[.int .u64 n] w fun e w' => e = .returned (.string ⟨(numB n.toNat).toArray⟩) ∧ Below w.heap.size w w' := by
  obtain ⟨i0, hi, hz0, hz1, hz2⟩ := info_parts info_u8
  go_enter Tryz.func46, Tryz.ntmps46
  go_wp2
  go_loopw [0, 3] (fun m v wr => ∃ (k : Int), m = .int .u64 k ∧ NumRel w n k v wr) (fun m _ _ => (intOf m).toNat)
  case atStart => exact ⟨n, rfl, [], h0, Int.le_refl _, rfl, World.ownsRow_nil _ _ _ _, Below.refl _ _⟩
  case round =>
    obtain ⟨k, rfl, xs, hk0, hk, hx, hown, hb⟩ := hrel
    have hsz := hb.size
    have hl := congrArg List.length hx
    have hn := numB_len10 n.toNat (by omega)
    have hk1 := numB_pos k.toNat
    rw [List.length_append, List.length_map] at hl
    have hxl : xs.length ≤ 9 := by omega
    have HX := Lib.hid hx; clear hx hl hn hk1
    by_cases hlt : k < 128
    · have hfin : (strOfNums (xs ++ [k])) = ⟨(numB n.toNat).toArray⟩ := by
        rw [← HX.out, numB_small (by omega)]; simp [strOfNums]
      have HF := Lib.hid hfin; clear hfin
      go_wp2_with (first
        | (at_builtin; refine wpList_append_own _ rfl _ _ 63 rfl w.heap.size 5 i0 (.int .u8 0) 1 1 Tryz.underlying63 hi hz0 hz1 hz2 rfl (by decide) _ _ _ rfl (hown.alloc _) ⟨wr.heap.size, 0, none⟩ 1 1 [.int .u8 k] rfl rfl (cell_one_new _ _ _) (fun x hx => by simp at hx; subst hx; rfl) (by unfold maxLen; omega) (by omega) (by simp; omega) ?_; intro v' w3 hown' hgrow3 hnil3; clear hnil3; have hcv := run_convert_own (P := Tryz.prog) (xs := xs ++ [k]) 63 9 Tryz.underlying63 Tryz.underlying5 Tryz.underlying9 (by simpa using hown'); rw [HF.out] at hcv; have hb3 : Below w.heap.size w w3 := (hb.alloc hsz _).grown hgrow3 (by simp; omega) (fun q hq => (hown.lt q hq).1); clear hown' hgrow3))
      go_ret
      exact ⟨rfl, hb3⟩
    · go_wp2_with (first
        | (at_builtin; refine wpList_append_own _ rfl _ _ 63 rfl w.heap.size 5 i0 (.int .u8 0) 1 1 Tryz.underlying63 hi hz0 hz1 hz2 rfl (by decide) _ _ _ rfl (hown.alloc _) ⟨wr.heap.size, 0, none⟩ 1 1 [_] rfl rfl (cell_one_new _ _ _) (fun x hx => by simp at hx; subst hx; rfl) (by unfold maxLen; omega) (by omega) (by simp; omega) ?_; intro v' w3 hown' hgrow3 hnil3))
      refine ⟨⟨k / 128, rfl, xs ++ [bits BinOp.or IntKind.u8 (k % 256) 128], by omega, by omega, ?_, by simpa using hown', (hb.alloc hsz _).grown hgrow3 (by simp; omega) (fun q hq => (hown.lt q hq).1)⟩, by simp [intOf]; omega⟩
      rw [← HX.out, numB_big (n := k.toNat) (by omega), byte_or128 k hk0, show (k / 128).toNat = k.toNat / 128 from by omega]
      simp only [List.map_append, List.map_cons, List.map_nil, Int.toNat_natCast, List.append_assoc, List.cons_append, List.nil_append]
end Go.Proofs.YtlcepboedifniaaGreatDoor

namespace Go.Proofs.YtlcepboedifniaaGreatDoor
open Go.RowKit Copyhold
theorem octet_lay (bk o c : Nat) (xs : List (List UInt8)) (w : World) (hcells : ∀ (j : Nat) x, xs[j]? = some x → w.cell? ⟨bk, o + j, none⟩ = some (.string ⟨x.toArray⟩)) (hbk : bk < w.heap.size)
    (hN : xs.length ≤ 140737488355328) (hcap : xs.length ≤ c) (hlen : xs.flatten.length ≤ 140737488355328) :
    Calls Tryz.prog 45 #[.slice (some ⟨bk, o, none⟩) xs.length c] w fun e w' => e = .returned (.string ⟨xs.flatten.toArray⟩) ∧ Below w.heap.size w w' := by
  have hj := Tryz.strings_Join bk o c (xs.map fun l => ⟨l.toArray⟩) ⟨#[]⟩ w (fun j x hx => by
      rw [List.getElem?_map] at hx
      cases hg : xs[j]? with
      | none => rw [hg] at hx; cases hx
      | some y => rw [hg] at hx; cases hx; exact hcells j y hg) hbk (by simpa using hN) (by simpa using hcap)
  have e : Lib.join ((xs.map fun l => (⟨l.toArray⟩ : ByteArray)).map (·.data.toList)) (⟨#[]⟩ : ByteArray).data.toList = xs.flatten := by
    rw [List.map_map]
    show List.intercalate [] _ = _
    rw [intercalate_nil]
    congr 1
    exact List.map_id xs
  rw [e, List.length_map] at hj
  have HJ := Lib.hid (hj hlen); clear hj e hcells
  go_enter Tryz.func45, Tryz.ntmps45
  go_wp2_with (go_at_call 52; refine HJ.out.mono ?_; rintro e w' ⟨rfl, hb⟩)
  go_ret
  exact ⟨rfl, hb⟩
theorem octet_Text (l : List UInt8) (w : World) (h : l.length ≤ 70368744177664) :
    Calls Tryz.prog 32 #[.string ⟨l.toArray⟩] w fun e w' => e = .returned (.string ⟨(textB l).toArray⟩) ∧ Below w.heap.size w w' := by
  go_enter Tryz.func32, Tryz.ntmps32
  go_wp2_with fail
  refine (octet_Num _ _ (by omega) (by omega)).mono ?_
  rintro e w1 ⟨rfl, hb1⟩
  rw [Int.toNat_natCast]
  have hn := numB_len10 l.length (by omega)
  have hsz := hb1.size
  go_wp2_with fail
  refine (octet_lay w1.heap.size 0 2 [numB l.length, l] _ ?_ (by simp) (by simp) (by simp) (by simp; omega)).mono ?_
  · intro j x hx
    match j, hx with
    | 0, hx => cases hx; simp
    | 1, hx => cases hx; simp
  rintro e w2 ⟨rfl, hb2⟩
  go_wp2_with fail
  go_ret
  exact ⟨by simp [textB], (hb1.alloc hsz _).trans (hb2.mono (by simp; omega))⟩
end Go.Proofs.YtlcepboedifniaaGreatDoor
