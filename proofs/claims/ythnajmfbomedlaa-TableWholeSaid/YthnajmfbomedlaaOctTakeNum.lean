/- octet.TakeNum: for every text it answers as the document says of a short number; old memory is as it was. -/
import Derived.Test.YthnajmfbomedlaaOctNum
import Derived.Deep.QuietTactic
import Derived.BigQuiet
namespace Go.Proofs.Ythnajmfbomedlaa
open Go.RowKit Copyhold

/-- the two variables that the closure has: the text, and the place -/
def boxes (w : World) (l : List UInt8) (k : Int) : World := (w.alloc (.cells #[.string ⟨l.toArray⟩] 9)).alloc (.cells #[.int .i64 k] 3)

theorem next_yes (w : World) (l : List UInt8) (k : Nat) (hk : k < l.length) (_hl : l.length ≤ 140737488355328) :
    Calls Try.prog 65 #[.pointer (some ⟨w.heap.size + 1, 0, none⟩), .pointer (some ⟨w.heap.size, 0, none⟩)] (boxes w l k) fun e w' => e = .returned (.tuple #[.int .u8 (l[k].toNat), .bool true]) ∧ boxes w l (k + 1) = w' := by
  unfold boxes
  go_enter Try.func65, Try.ntmps65
  go_wp2
  go_ret2
  exact ⟨rfl, rfl⟩
theorem next_no (w : World) (l : List UInt8) (k : Nat) (hk : l.length ≤ k) (_hl : k ≤ 140737488355328) :
    Calls Try.prog 65 #[.pointer (some ⟨w.heap.size + 1, 0, none⟩), .pointer (some ⟨w.heap.size, 0, none⟩)] (boxes w l k) fun e w' => e = .returned (.tuple #[.int .u8 0, .bool false]) ∧ boxes w l k = w' := by
  unfold boxes
  go_enter Try.func65, Try.ntmps65
  go_wp2
  go_ret2
  exact ⟨rfl, rfl⟩

def TnRel (l : List UInt8) (k : Nat) (z : Int) : Prop :=
  0 ≤ z ∧ z < 2 ^ (7 * k) ∧ k ≤ l.length ∧ tnGo k z.toNat (l.drop k) = takeNum l

/-- what the figure makes of the number -/
def tnStep (z : Int) (b k : Nat) : Int := bits BinOp.or IntKind.u64 z (IntKind.u64.wrap (IntKind.u64.wrap (bits BinOp.and IntKind.u8 (↑b) 127) * 2 ^ (7 * k)))

theorem pow_split (k : Nat) (h : k ≤ 8) : 2 ^ (7 * k) ≤ 72057594037927936 := by
  have : 2 ^ (7 * k) ≤ 2 ^ 56 := Nat.pow_le_pow_right (by decide) (by omega)
  simpa using this
theorem pow128 (k : Nat) : 128 ^ k = 2 ^ (7 * k) := by rw [Nat.pow_mul]

theorem tnStep_exact (z : Int) (b k : Nat) (hz0 : 0 ≤ z) (hz : z < 2 ^ (7 * k)) (hb : b < 256) (hk : k ≤ 8 ∨ k = 9 ∧ b ≤ 1) :
    tnStep z b k = ((z.toNat + (b % 128) * 128 ^ k : Nat) : Int) := by
  have hand : bits BinOp.and IntKind.u8 (↑b) 127 = ((b % 128 : Nat) : Int) := by
    rw [u8_and _ _ (by omega) (by omega) (by omega) (by omega)]
    congr 1
    rw [show (127 : Int).toNat = 127 from rfl, Int.toNat_natCast]
    exact Nat.and_two_pow_sub_one_eq_mod b 7
  obtain ⟨y, rfl⟩ := Int.eq_ofNat_of_zero_le hz0
  have hy : y < 2 ^ (7 * k) := by
    have : ((2 ^ (7 * k) : Nat) : Int) = (2 : Int) ^ (7 * k) := by simp
    omega
  have hm : b % 128 < 128 := Nat.mod_lt _ (by decide)
  have hprod : (b % 128) * 2 ^ (7 * k) < 18446744073709551616 ∧ y < 18446744073709551616 := by
    rcases hk with hk | ⟨rfl, hb1⟩
    · have h8 := pow_split k hk
      have : (b % 128) * 2 ^ (7 * k) ≤ 127 * 72057594037927936 := Nat.mul_le_mul (by omega) h8
      omega
    · have e : (2 : Nat) ^ (7 * 9) = 9223372036854775808 := by decide
      rw [e] at hy ⊢
      have : b % 128 ≤ 1 := by omega
      have : (b % 128) * 9223372036854775808 ≤ 1 * 9223372036854775808 := Nat.mul_le_mul_right _ this
      omega
  have hw : ∀ n : Nat, n < 18446744073709551616 → IntKind.u64.wrap (n : Int) = (n : Int) := by
    intro n hn
    simp only [IntKind.wrap, IntKind.bits, IntKind.signed]
    have e : (n : Int) % 18446744073709551616 = n := by omega
    simpa using e
  unfold tnStep
  rw [hand, hw _ (by omega)]
  have e2 : (((b % 128 : Nat) : Int) * 2 ^ (7 * k)) = (((b % 128) * 2 ^ (7 * k) : Nat) : Int) := by simp
  rw [e2, hw _ hprod.1, u64_or_nat _ _ hprod.2 hprod.1]
  congr 1
  rw [Int.toNat_natCast, pow128, Nat.or_comm, nat_join (7 * k) _ _ (Nat.mul_mod_left _ _) hy, Nat.add_comm]

theorem tnGo_ten (acc : Nat) (l : List UInt8) : tnGo 10 acc l = (0, [], 3) := by cases l <;> simp [tnGo]

theorem drop_cons (l : List UInt8) (k : Nat) (h : k < l.length) : l.drop k = l[k] :: l.drop (k + 1) := List.drop_eq_getElem_cons h

/-- a figure that has 128 more: on -/
theorem tn_on (l : List UInt8) (k : Nat) (z : Int) (hk : k < 10) (h : k < l.length) (hb : ¬ l[k].toNat < 128) (hz0 : 0 ≤ z) (hz : z < 2 ^ (7 * k)) (hg : tnGo k z.toNat (l.drop k) = takeNum l) :
    TnRel l (k + 1) (tnStep z l[k].toNat k) ∨ k = 9 := by
  have hbb : l[k].toNat < 256 := l[k].toNat_lt
  by_cases h9 : k = 9
  · exact .inr h9
  left
  rw [drop_cons l k h, tnGo, if_pos hk, if_neg hb] at hg
  rw [tnStep_exact z _ k hz0 hz hbb (.inl (by omega))]
  have hm : l[k].toNat % 128 < 128 := Nat.mod_lt _ (by decide)
  refine ⟨by omega, ?_, by omega, by rw [Int.toNat_natCast]; exact hg⟩
  obtain ⟨y, rfl⟩ := Int.eq_ofNat_of_zero_le hz0
  have hy : y < 2 ^ (7 * k) := by
    have : ((2 ^ (7 * k) : Nat) : Int) = (2 : Int) ^ (7 * k) := by simp
    omega
  rw [Int.toNat_natCast, pow128]
  have e : (2 : Nat) ^ (7 * (k + 1)) = 128 * 2 ^ (7 * k) := by rw [show 7 * (k + 1) = 7 + 7 * k from by omega, Nat.pow_add]
  have hp : (l[k].toNat % 128) * 2 ^ (7 * k) ≤ 127 * 2 ^ (7 * k) := Nat.mul_le_mul_right _ (by omega)
  have : ((y + (l[k].toNat % 128) * 2 ^ (7 * k) : Nat) : Int) < ((2 ^ (7 * (k + 1)) : Nat) : Int) := by
    rw [e]; omega
  simpa using this

def TnEnd (l : List UInt8) (k b : Nat) (z : Int) : Prop :=
  k < 10 ∧ k < l.length ∧ b < 128 ∧ (if k = 9 ∧ 1 < b ∨ 0 < k ∧ b = 0 then takeNum l = (0, [], 3) else 0 ≤ z ∧ takeNum l = (z.toNat, l.drop (k + 1), 0))

theorem tn_end (l : List UInt8) (k : Nat) (z : Int) (hk : k < 10) (h : k < l.length) (hb : l[k].toNat < 128) (hz0 : 0 ≤ z) (hz : z < 2 ^ (7 * k)) (hg : tnGo k z.toNat (l.drop k) = takeNum l) :
    TnEnd l k l[k].toNat (tnStep z l[k].toNat k) := by
  refine ⟨hk, h, hb, ?_⟩
  rw [drop_cons l k h, tnGo, if_pos hk, if_pos hb] at hg
  split
  · rename_i hc
    rw [if_pos hc] at hg
    exact hg.symm
  · rename_i hc
    rw [if_neg hc] at hg
    rw [tnStep_exact z _ k hz0 hz (by omega) (by omega), Int.toNat_natCast, Nat.mod_eq_of_lt hb]
    exact ⟨by omega, hg.symm⟩

theorem tn_more (l : List UInt8) (k : Nat) (z : Int) (hk : k < 10) (h : l.length ≤ k) (hg : tnGo k z.toNat (l.drop k) = takeNum l) : takeNum l = (0, [], 2) := by
  rw [List.drop_eq_nil_of_le h, tnGo, if_pos hk] at hg
  exact hg.symm

/-- at the label: the place, the last figure, the number -/
def TnJump (w : World) (l : List UInt8) (a : Act) (w' : World) : Prop :=
  ∃ (k b : Nat) (z : Int) (u2 u3 u4 u6 u9 u10 u11 u12 u13 u14 u15 u16 u17 u18 u19 u20 u21 u22 u23 u24 u25 u26 u27 u28 u29 u30 u31 u32 u33 u34 : Value), w' = boxes w l (k + 1) ∧ TnEnd l k b z ∧
    a = { tmps := #[.string ⟨l.toArray⟩, .pointer (some ⟨w.heap.size, 0, none⟩), u2, u3, u4, .pointer (some ⟨w.heap.size + 1, 0, none⟩), u6, .int .u64 z, .int .u8 b, u9, u10, u11, u12, u13, u14, u15, u16, u17, u18, u19, u20, u21, u22, u23, u24, u25, u26, u27, u28, u29, u30, u31, u32, u33, u34, undef, undef, undef, undef, undef, undef, undef, undef, undef, undef, undef, undef, undef, undef, undef, undef, undef, undef], defers := [] }

theorem below_boxes (w : World) (l : List UInt8) (k : Int) : Below w.heap.size w (boxes w l k) := ((Below.refl _ _).alloc (Nat.le_refl _) _).alloc (by simp) _

set_option maxRecDepth 100000 in
set_option maxHeartbeats 1000000 in
theorem octet_TakeNum (l : List UInt8) (w : World) (hl : l.length ≤ 140737488355328) :
    Calls Try.prog 55 #[.string ⟨l.toArray⟩] w fun e w' => e = .returned (.tuple #[.int .u64 (takeNum l).1, .string ⟨(takeNum l).2.1.toArray⟩, .int .i64 (takeNum l).2.2]) ∧ Below w.heap.size w w' := by
  go_enter Try.func55, Try.ntmps55
  go_wp2_with fail
  refine wp_scope_jumps 0 (TnJump w l) (fun _ _ => 0) rfl ?_ ?_
  · go_wp2_with fail
    have e0 : (w.alloc (.cells #[.string ⟨l.toArray⟩] 9)).alloc (.cells #[.int .i64 0] 3) = boxes w l ((0 : Nat) : Int) := rfl
    rw [e0]
    clear e0
    go_loopw [7, 13] (fun n i wr => ∃ (k : Nat) (z : Int), k ≤ 10 ∧ i = .int .i64 k ∧ n = .int .u64 z ∧ wr = boxes w l k ∧ (k = 10 ∧ takeNum l = (0, [], 3) ∨ k < 10 ∧ TnRel l k z)) (fun _ i _ => 10 - (intOf i).toNat)
    case atStart => exact ⟨0, 0, Nat.zero_le _, rfl, rfl, rfl, .inr ⟨by decide, Int.le_refl _, by decide, Nat.zero_le _, rfl⟩⟩
    case round =>
      obtain ⟨k, z, hk, rfl, rfl, rfl, hgo⟩ := hrel
      rcases hgo with ⟨rfl, hg⟩ | ⟨hlt, hz0, hz1, hkl, hgo⟩
      · have HG := Lib.hid hg; clear hg
        go_wp2_with fail
        simp only [Exit.jump]
        go_ret3
        exact ⟨by rw [HG.out]; rfl, below_boxes _ _ _⟩
      have HG := Lib.hid hgo; clear hgo
      have HZ := Lib.hid hz1; clear hz1
      by_cases hin : k < l.length
      · go_wp2_with fail
        refine (next_yes w l k hin hl).mono ?_
        rintro e w' ⟨rfl, rfl⟩
        have hbb : l[k].toNat < 256 := l[k].toNat_lt
        by_cases hb : l[k].toNat < 128
        · have HE := Lib.hid (tn_end l k z hlt hin hb hz0 HZ.out HG.out)
          generalize l[k].toNat = b at *
          go_wp2_with fail
          go_step3
          refine ⟨rfl, k, b, _, _, _, _, _, _, _, _, _, _, _, _, _, _, _, _, _, _, _, _, _, _, _, _, _, _, _, _, _, _, _, rfl, HE.out, rfl⟩
        · have HE := Lib.hid (tn_on l k z hlt hin hb hz0 HZ.out HG.out)
          have HE9 : Hid (k = 9 → takeNum l = (0, [], 3)) := by
            rintro rfl
            have hg := HG.out
            rw [drop_cons l 9 hin, tnGo, if_pos hlt, if_neg hb, tnGo_ten] at hg
            exact hg.symm
          generalize l[k].toNat = b at *
          go_wp2_with fail
          refine ⟨⟨k + 1, tnStep z b k, by omega, by go_num, rfl, by go_num, ?_⟩, by simp [intOf]; omega⟩
          rcases HE.out with h | h
          · by_cases h9 : k = 9
            · exact .inl ⟨by omega, HE9.out h9⟩
            · exact .inr ⟨by omega, h⟩
          · exact .inl ⟨by omega, HE9.out h⟩
      · have HM := Lib.hid (tn_more l k z hlt (by omega) HG.out)
        go_wp2_with fail
        refine (next_no w l k (by omega) (by omega)).mono ?_
        rintro e w' ⟨rfl, rfl⟩
        go_wp2_with fail
        simp only [Exit.jump]
        go_ret3
        exact ⟨by rw [HM.out]; rfl, below_boxes _ _ _⟩
  · rintro a' w' ⟨k, b, z, u2, u3, u4, u6, u9, u10, u11, u12, u13, u14, u15, u16, u17, u18, u19, u20, u21, u22, u23, u24, u25, u26, u27, u28, u29, u30, u31, u32, u33, u34, rfl, hend, rfl⟩
    obtain ⟨hk, hkl, hb, hif⟩ := hend
    by_cases hc : k = 9 ∧ 1 < b ∨ 0 < k ∧ b = 0
    · rw [if_pos hc] at hif
      have HI := Lib.hid hif; clear hif
      unfold boxes
      rcases (show k = 9 ∧ 1 < b ∨ k = 9 ∧ b = 0 ∨ 0 < k ∧ k < 9 ∧ b = 0 from by omega) with ⟨rfl, h⟩ | ⟨rfl, rfl⟩ | ⟨h1, h2, rfl⟩
      all_goals
        clear hc
        go_wp2_with fail
        simp only [Exit.jump]
        go_ret3
        exact ⟨by rw [HI.out]; rfl, below_boxes w l _⟩
    · rw [if_neg hc] at hif
      obtain ⟨hz0, hif⟩ := hif
      have HI := Lib.hid hif; clear hif
      unfold boxes
      rcases (show k = 9 ∧ b = 1 ∨ k = 0 ∨ 0 < k ∧ k < 9 ∧ 0 < b from by omega) with ⟨rfl, rfl⟩ | rfl | ⟨h1, h2, h3⟩
      all_goals
        clear hc
        go_wp2_with fail
        go_quiet (fail)
        go_wp2_with fail
        simp only [Exit.jump]
        go_ret3
        refine ⟨?_, ?_⟩
        · rw [HI.out]
          exact ret3 (int_toNat hz0) (congrArg Value.string (piece_end l _)) rfl
        · exact below_drewN (below_boxes w l _) _
end Go.Proofs.Ythnajmfbomedlaa
