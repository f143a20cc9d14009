/- octet.TakeNum: for every text it answers as the document says of a short number; old memory is as it was. octet.takeCount, octet.TakeText: for every text and bound they answer as the document says; old memory is as it was. octet.Fold, octet.Unfold: as the document says, for every number; memory is as it was. copyholdref01.Num, Text, Fold, Unfold: the document's own answers: a short number's and a text's bytes; folded numbers; old memory is as it was. Layer 1's plain mathematics, more: what was laid is taken as it was; what is taken was laid. Layer 1's plain mathematics, more: a number read from its highest figure on, and laid again, is what was taken. copyholdref01.TakeNum, TakeText, TakeList: the document's own answers: what is taken is what takeNum, takeText, takeList say; old memory is as it was. -/
import Derived.Test.YtlcepboedifniaaGreatDoorMrgI
import Derived.Deep.QuietTactic
import Derived.BigQuiet
import Derived.Deep.RegionWith
import Derived.IntWalk
namespace Go.Proofs.YtlcepboedifniaaGreatDoor
open Go.RowKit Copyhold
def boxes (w : World) (l : List UInt8) (k : Int) : World := (w.alloc (.cells #[.string ⟨l.toArray⟩] 9)).alloc (.cells #[.int .i64 k] 3)
theorem next_yes (w : World) (l : List UInt8) (k : Nat) (hk : k < l.length) (_hl : l.length ≤ 140737488355328) :
    Calls Tryz.prog 100 #[.pointer (some ⟨w.heap.size + 1, 0, none⟩), .pointer (some ⟨w.heap.size, 0, none⟩)] (boxes w l k) fun e w' => e = .returned (.tuple #[.int .u8 (l[k].toNat), .bool true]) ∧ boxes w l (k + 1) = w' := by
  unfold boxes
  go_enter Tryz.func100, Tryz.ntmps100
  go_wp2
  go_ret2
  exact ⟨rfl, rfl⟩
theorem next_no (w : World) (l : List UInt8) (k : Nat) (hk : l.length ≤ k) (_hl : k ≤ 140737488355328) :
    Calls Tryz.prog 100 #[.pointer (some ⟨w.heap.size + 1, 0, none⟩), .pointer (some ⟨w.heap.size, 0, none⟩)] (boxes w l k) fun e w' => e = .returned (.tuple #[.int .u8 0, .bool false]) ∧ boxes w l k = w' := by
  unfold boxes
  go_enter Tryz.func100, Tryz.ntmps100
  go_wp2
  go_ret2
  exact ⟨rfl, rfl⟩
def TnRel (l : List UInt8) (k : Nat) (z : Int) : Prop :=
  0 ≤ z ∧ z < 2 ^ (7 * k) ∧ k ≤ l.length ∧ tnGo k z.toNat (l.drop k) = takeNum l
def tnStep (z : Int) (b k : Nat) : Int := bits BinOp.or IntKind.u64 z (IntKind.u64.wrap (IntKind.u64.wrap (bits BinOp.and IntKind.u8 (↑b) 127) * 2 ^ (7 * k)))
theorem pow_split (k : Nat) (h : k ≤ 8) : 2 ^ (7 * k) ≤ 72057594037927936 := by
  have : 2 ^ (7 * k) ≤ 2 ^ 56 := Nat.pow_le_pow_right (by decide) (by omega)
  simpa using this
theorem pow128 (k : Nat) : 128 ^ k = 2 ^ (7 * k) := by rw [Nat.pow_mul]
theorem tnStep_exact (z : Int) (b k : Nat) (hz0 : 0 ≤ z) (hz : z < 2 ^ (7 * k)) (hb : b < 256) (hk : k ≤ 8 ∨ k = 9 ∧ b ≤ 1) :
    tnStep z b k = ((z.toNat + (b % 128) * 128 ^ k : Nat) : Int) := by
  have hand : bits BinOp.and IntKind.u8 (↑b) 127 = ((b % 128 : Nat) : Int) := by
    rw [u8_and _ _ (by omega) (by omega) (by omega) (by omega)]
    congr 1
    rw [show (127 : Int).toNat = 127 from rfl, Int.toNat_natCast]
    exact Nat.and_two_pow_sub_one_eq_mod b 7
  obtain ⟨y, rfl⟩ := Int.eq_ofNat_of_zero_le hz0
  have hy : y < 2 ^ (7 * k) := by
    have : ((2 ^ (7 * k) : Nat) : Int) = (2 : Int) ^ (7 * k) := by simp
    omega
  have hm : b % 128 < 128 := Nat.mod_lt _ (by decide)
  have hprod : (b % 128) * 2 ^ (7 * k) < 18446744073709551616 ∧ y < 18446744073709551616 := by
    rcases hk with hk | ⟨rfl, hb1⟩
    · have h8 := pow_split k hk
      have : (b % 128) * 2 ^ (7 * k) ≤ 127 * 72057594037927936 := Nat.mul_le_mul (by omega) h8
      omega
    · have e : (2 : Nat) ^ (7 * 9) = 9223372036854775808 := by decide
      rw [e] at hy ⊢
      have : b % 128 ≤ 1 := by omega
      have : (b % 128) * 9223372036854775808 ≤ 1 * 9223372036854775808 := Nat.mul_le_mul_right _ this
      omega
  have hw : ∀ n : Nat, n < 18446744073709551616 → IntKind.u64.wrap (n : Int) = (n : Int) := by
    intro n hn
    simp only [IntKind.wrap, IntKind.bits, IntKind.signed]
    have e : (n : Int) % 18446744073709551616 = n := by omega
    simpa using e
  unfold tnStep
  rw [hand, hw _ (by omega)]
  have e2 : (((b % 128 : Nat) : Int) * 2 ^ (7 * k)) = (((b % 128) * 2 ^ (7 * k) : Nat) : Int) := by simp
  rw [e2, hw _ hprod.1, u64_or_nat _ _ hprod.2 hprod.1]
  congr 1
  rw [Int.toNat_natCast, pow128, Nat.or_comm, nat_join (7 * k) _ _ (Nat.mul_mod_left _ _) hy, Nat.add_comm]
theorem tnGo_ten (acc : Nat) (l : List UInt8) : tnGo 10 acc l = (0, [], 3) := by cases l <;> simp [tnGo]
theorem drop_cons (l : List UInt8) (k : Nat) (h : k < l.length) : l.drop k = l[k] :: l.drop (k + 1) := List.drop_eq_getElem_cons h
theorem tn_on (l : List UInt8) (k : Nat) (z : Int) (hk : k < 10) (h : k < l.length) (hb : ¬ l[k].toNat < 128) (hz0 : 0 ≤ z) (hz : z < 2 ^ (7 * k)) (hg : tnGo k z.toNat (l.drop k) = takeNum l) :
    TnRel l (k + 1) (tnStep z l[k].toNat k) ∨ k = 9 := by
  have hbb : l[k].toNat < 256 := l[k].toNat_lt
  by_cases h9 : k = 9
  · exact .inr h9
  left
  rw [drop_cons l k h, tnGo, if_pos hk, if_neg hb] at hg
  rw [tnStep_exact z _ k hz0 hz hbb (.inl (by omega))]
  have hm : l[k].toNat % 128 < 128 := Nat.mod_lt _ (by decide)
  refine ⟨by omega, ?_, by omega, by rw [Int.toNat_natCast]; exact hg⟩
  obtain ⟨y, rfl⟩ := Int.eq_ofNat_of_zero_le hz0
  have hy : y < 2 ^ (7 * k) := by
    have : ((2 ^ (7 * k) : Nat) : Int) = (2 : Int) ^ (7 * k) := by simp
    omega
  rw [Int.toNat_natCast, pow128]
  have e : (2 : Nat) ^ (7 * (k + 1)) = 128 * 2 ^ (7 * k) := by rw [show 7 * (k + 1) = 7 + 7 * k from by omega, Nat.pow_add]
  have hp : (l[k].toNat % 128) * 2 ^ (7 * k) ≤ 127 * 2 ^ (7 * k) := Nat.mul_le_mul_right _ (by omega)
  have : ((y + (l[k].toNat % 128) * 2 ^ (7 * k) : Nat) : Int) < ((2 ^ (7 * (k + 1)) : Nat) : Int) := by
    rw [e]; omega
  simpa using this
def TnEnd (l : List UInt8) (k b : Nat) (z : Int) : Prop :=
  k < 10 ∧ k < l.length ∧ b < 128 ∧ (if k = 9 ∧ 1 < b ∨ 0 < k ∧ b = 0 then takeNum l = (0, [], 3) else 0 ≤ z ∧ takeNum l = (z.toNat, l.drop (k + 1), 0))
theorem tn_end (l : List UInt8) (k : Nat) (z : Int) (hk : k < 10) (h : k < l.length) (hb : l[k].toNat < 128) (hz0 : 0 ≤ z) (hz : z < 2 ^ (7 * k)) (hg : tnGo k z.toNat (l.drop k) = takeNum l) :
    TnEnd l k l[k].toNat (tnStep z l[k].toNat k) := by
  refine ⟨hk, h, hb, ?_⟩
  rw [drop_cons l k h, tnGo, if_pos hk, if_pos hb] at hg
  split
  · rename_i hc
    rw [if_pos hc] at hg
    exact hg.symm
  · rename_i hc
    rw [if_neg hc] at hg
    rw [tnStep_exact z _ k hz0 hz (by omega) (by omega), Int.toNat_natCast, Nat.mod_eq_of_lt hb]
    exact ⟨by omega, hg.symm⟩
theorem tn_more (l : List UInt8) (k : Nat) (z : Int) (hk : k < 10) (h : l.length ≤ k) (hg : tnGo k z.toNat (l.drop k) = takeNum l) : takeNum l = (0, [], 2) := by
  rw [List.drop_eq_nil_of_le h, tnGo, if_pos hk] at hg
  exact hg.symm
def TnJump (w : World) (l : List UInt8) (a : Act) (w' : World) : Prop :=
  ∃ (k b : Nat) (z : Int) (u2 u3 u4 u6 u9 u10 u11 u12 u13 u14 u15 u16 u17 u18 u19 u20 u21 u22 u23 u24 u25 u26 u27 u28 u29 u30 u31 u32 u33 u34 : Value), w' = boxes w l (k + 1) ∧ TnEnd l k b z ∧
    a = { tmps := #[.string ⟨l.toArray⟩, .pointer (some ⟨w.heap.size, 0, none⟩), u2, u3, u4, .pointer (some ⟨w.heap.size + 1, 0, none⟩), u6, .int .u64 z, .int .u8 b, u9, u10, u11, u12, u13, u14, u15, u16, u17, u18, u19, u20, u21, u22, u23, u24, u25, u26, u27, u28, u29, u30, u31, u32, u33, u34, undef, undef, undef, undef, undef, undef, undef, undef, undef, undef, undef, undef, undef, undef, undef, undef, undef, undef], defers := [] }
theorem below_boxes (w : World) (l : List UInt8) (k : Int) : Below w.heap.size w (boxes w l k) := ((Below.refl _ _).alloc (Nat.le_refl _) _).alloc (by simp) _
set_option maxRecDepth 100000 in
set_option maxHeartbeats 1000000 in
theorem octet_TakeNum (l : List UInt8) (w : World) (hl : l.length ≤ 140737488355328) :
    Calls Tryz.prog 92 #[.string ⟨l.toArray⟩] w fun e w' => e = .returned (.tuple #[.int .u64 (takeNum l).1, .string ⟨(takeNum l).2.1.toArray⟩, .int .i64 (takeNum l).2.2]) ∧ Below w.heap.size w w' := by
  go_enter Tryz.func92, Tryz.ntmps92
  go_wp2_with fail
  refine wp_scope_jumps 0 (TnJump w l) (fun _ _ => 0) rfl ?_ ?_
  · go_wp2_with fail
    have e0 : (w.alloc (.cells #[.string ⟨l.toArray⟩] 9)).alloc (.cells #[.int .i64 0] 3) = boxes w l ((0 : Nat) : Int) := rfl
    rw [e0]
    clear e0
    go_loopw [7, 13] (fun n i wr => ∃ (k : Nat) (z : Int), k ≤ 10 ∧ i = .int .i64 k ∧ n = .int .u64 z ∧ wr = boxes w l k ∧ (k = 10 ∧ takeNum l = (0, [], 3) ∨ k < 10 ∧ TnRel l k z)) (fun _ i _ => 10 - (intOf i).toNat)
    case atStart => exact ⟨0, 0, Nat.zero_le _, rfl, rfl, rfl, .inr ⟨by decide, Int.le_refl _, by decide, Nat.zero_le _, rfl⟩⟩
    case round =>
      obtain ⟨k, z, hk, rfl, rfl, rfl, hgo⟩ := hrel
      rcases hgo with ⟨rfl, hg⟩ | ⟨hlt, hz0, hz1, hkl, hgo⟩
      · have HG := Lib.hid hg; clear hg
        go_wp2_with fail
        simp only [Exit.jump]
        go_ret3
        exact ⟨by rw [HG.out]; rfl, below_boxes _ _ _⟩
      have HG := Lib.hid hgo; clear hgo
      have HZ := Lib.hid hz1; clear hz1
      by_cases hin : k < l.length
      · go_wp2_with fail
        refine (next_yes w l k hin hl).mono ?_
        rintro e w' ⟨rfl, rfl⟩
        have hbb : l[k].toNat < 256 := l[k].toNat_lt
        by_cases hb : l[k].toNat < 128
        · have HE := Lib.hid (tn_end l k z hlt hin hb hz0 HZ.out HG.out)
          generalize l[k].toNat = b at *
          go_wp2_with fail
          go_step3
          refine ⟨rfl, k, b, _, _, _, _, _, _, _, _, _, _, _, _, _, _, _, _, _, _, _, _, _, _, _, _, _, _, _, _, _, _, _, rfl, HE.out, rfl⟩
        · have HE := Lib.hid (tn_on l k z hlt hin hb hz0 HZ.out HG.out)
          have HE9 : Hid (k = 9 → takeNum l = (0, [], 3)) := by
            rintro rfl
            have hg := HG.out
            rw [drop_cons l 9 hin, tnGo, if_pos hlt, if_neg hb, tnGo_ten] at hg
            exact hg.symm
          generalize l[k].toNat = b at *
          go_wp2_with fail
          refine ⟨⟨k + 1, tnStep z b k, by omega, by go_num, rfl, by go_num, ?_⟩, by simp [intOf]; omega⟩
          rcases HE.out with h | h
          · by_cases h9 : k = 9
            · exact .inl ⟨by omega, HE9.out h9⟩
            · exact .inr ⟨by omega, h⟩
          · exact .inl ⟨by omega, HE9.out h⟩
      · have HM := Lib.hid (tn_more l k z hlt (by omega) HG.out)
        go_wp2_with fail
        refine (next_no w l k (by omega) (by omega)).mono ?_
        rintro e w' ⟨rfl, rfl⟩
        go_wp2_with fail
        simp only [Exit.jump]
        go_ret3
        exact ⟨by rw [HM.out]; rfl, below_boxes _ _ _⟩
  · rintro a' w' ⟨k, b, z, u2, u3, u4, u6, u9, u10, u11, u12, u13, u14, u15, u16, u17, u18, u19, u20, u21, u22, u23, u24, u25, u26, u27, u28, u29, u30, u31, u32, u33, u34, rfl, hend, rfl⟩
    obtain ⟨hk, hkl, hb, hif⟩ := hend
    by_cases hc : k = 9 ∧ 1 < b ∨ 0 < k ∧ b = 0
    · rw [if_pos hc] at hif
      have HI := Lib.hid hif; clear hif
      unfold boxes
      rcases (show k = 9 ∧ 1 < b ∨ k = 9 ∧ b = 0 ∨ 0 < k ∧ k < 9 ∧ b = 0 from by omega) with ⟨rfl, h⟩ | ⟨rfl, rfl⟩ | ⟨h1, h2, rfl⟩
      all_goals
        clear hc
        go_wp2_with fail
        simp only [Exit.jump]
        go_ret3
        exact ⟨by rw [HI.out]; rfl, below_boxes w l _⟩
    · rw [if_neg hc] at hif
      obtain ⟨hz0, hif⟩ := hif
      have HI := Lib.hid hif; clear hif
      unfold boxes
      rcases (show k = 9 ∧ b = 1 ∨ k = 0 ∨ 0 < k ∧ k < 9 ∧ 0 < b from by omega) with ⟨rfl, rfl⟩ | rfl | ⟨h1, h2, h3⟩
      all_goals
        clear hc
        go_wp2_with fail
        go_quiet (fail)
        go_wp2_with fail
        simp only [Exit.jump]
        go_ret3
        refine ⟨?_, ?_⟩
        · rw [HI.out]
          exact ret3 (int_toNat hz0) (congrArg Value.string (piece_end l _)) rfl
        · exact below_drewN (below_boxes w l _) _
end Go.Proofs.YtlcepboedifniaaGreatDoor

namespace Go.Proofs.YtlcepboedifniaaGreatDoor
open Go.RowKit Copyhold
set_option maxHeartbeats 1000000 in
theorem octet_takeCount (l : List UInt8) (most : Int) (w : World) (hl : l.length ≤ 140737488355328) (hm1 : -9223372036854775808 ≤ most) (hm2 : most ≤ 9223372036854775807) :
    Calls Tryz.prog 76 #[.string ⟨l.toArray⟩, .int .i64 most] w fun e w' => e = .returned (.tuple #[.int .u64 (takeCount l most).1, .string ⟨(takeCount l most).2.1.toArray⟩, .int .i64 (takeCount l most).2.2]) ∧ Below w.heap.size w w' := by
  have hbd := takeNum_bd l
  obtain ⟨n, hn⟩ : ∃ n : Int, n = ((takeNum l).1 : Int) := ⟨_, rfl⟩
  have hn0 : 0 ≤ n := by omega
  have hn1 : n ≤ 18446744073709551615 := by omega
  have HT := Lib.hid (show takeCount l most = if (takeNum l).2.2 ≠ 0 then (0, [], (takeNum l).2.2) else if most < 0 ∨ most < n then (0, [], 5) else takeNum l from by rw [hn]; rfl)
  clear hbd
  have HN := Lib.hid hn; clear hn
  go_enter Tryz.func76, Tryz.ntmps76
  go_wp2_with fail
  refine (octet_TakeNum l _ hl).mono ?_
  rintro e w1 ⟨rfl, hb1⟩
  rw [← HN.out]
  by_cases he : (takeNum l).2.2 = 0
  · rw [he]
    by_cases hc : most < 0 ∨ most < n
    · have hfin : takeCount l most = (0, [], 5) := by rw [HT.out, if_neg (by simp [he]), if_pos hc]
      have HF := Lib.hid hfin; clear hfin he
      rcases (show most < 0 ∨ 0 ≤ most ∧ most < n from by omega) with h | ⟨h, h'⟩
      all_goals
        clear hc
        go_wp2_with fail
        go_ret3
        exact ⟨by rw [HF.out]; rfl, hb1⟩
    · have hfin : takeCount l most = takeNum l := by rw [HT.out, if_neg (by simp [he]), if_neg hc]
      have h1 : 0 ≤ most := by omega
      have h2 : n ≤ most := by omega
      have HF := Lib.hid hfin; clear hfin hc
      have HE := Lib.hid he; clear he
      go_wp2_with fail
      go_ret3
      exact ⟨by rw [HF.out, HE.out]; exact ret3 (congrArg _ HN.out) rfl rfl, hb1⟩
  · have hfin : takeCount l most = (0, [], (takeNum l).2.2) := by rw [HT.out, if_pos he]
    have HF := Lib.hid hfin; clear hfin
    have hne : ((takeNum l).2.2 == 0) = false := by simpa using he
    have hne2 : ((takeNum l).2.2 != 0) = true := by simpa using he
    clear he
    go_wp2_with fail
    go_ret3
    exact ⟨by rw [HF.out]; rfl, hb1⟩
set_option maxHeartbeats 1000000 in
theorem octet_TakeText (l : List UInt8) (most : Int) (w : World) (hl : l.length ≤ 140737488355328) (hm1 : -9223372036854775808 ≤ most) (hm2 : most ≤ 9223372036854775807) :
    Calls Tryz.prog 66 #[.string ⟨l.toArray⟩, .int .i64 most] w fun e w' => e = .returned (.tuple #[.string ⟨(takeText l most).1.toArray⟩, .string ⟨(takeText l most).2.1.toArray⟩, .int .i64 (takeText l most).2.2]) ∧ Below w.heap.size w w' := by
  have hbd := takeCount_bd l most
  have HT := Lib.hid (show takeText l most = if (takeCount l most).2.2 ≠ 0 then ([], [], (takeCount l most).2.2)
  else if (takeCount l most).2.1.length < (takeCount l most).1 then ([], [], 2)
  else ((takeCount l most).2.1.take (takeCount l most).1, (takeCount l most).2.1.drop (takeCount l most).1, 0) from rfl)
  have hr : (takeCount l most).2.1.length ≤ 140737488355328 := by omega
  obtain ⟨hn1, _⟩ := hbd
  have HN := Lib.hid hn1; clear hn1
  go_enter Tryz.func66, Tryz.ntmps66
  go_wp2_with fail
  refine (octet_takeCount l most _ hl hm1 hm2).mono ?_
  rintro e w1 ⟨rfl, hb1⟩
  generalize hx : takeCount l most = x at *
  clear hx
  obtain ⟨n, r, e⟩ := x
  simp only at hr HN HT ⊢
  by_cases he : e = 0
  · subst he
    by_cases hc : r.length < n
    · have hfin : takeText l most = ([], [], 2) := by rw [HT.out, if_neg (by simp), if_pos hc]
      have HF := Lib.hid hfin; clear hfin
      have hc' : (r.length : Int) < (n : Int) := by omega
      clear hc
      obtain ⟨z, hz⟩ : ∃ z : Int, z = (n : Int) := ⟨_, rfl⟩
      rw [← hz] at hc' ⊢
      have hz1 : z ≤ 18446744073709551615 := by have := HN.out; omega
      clear hz HT HN
      go_wp2_with fail
      go_ret3
      exact ⟨by rw [HF.out]; rfl, hb1⟩
    · have hfin : takeText l most = (r.take n, r.drop n, 0) := by rw [HT.out, if_neg (by simp), if_neg hc]
      have HF := Lib.hid hfin; clear hfin
      have hc' : n ≤ r.length := by omega
      clear hc HT HN
      go_wp2_with fail
      go_quiet (fail)
      go_wp2_with fail
      go_ret3
      refine ⟨?_, ?_⟩
      · rw [HF.out]
        exact ret3 (congrArg Value.string (piece r 0 n)) (congrArg Value.string (piece_end r n)) rfl
      · exact below_drewN hb1 _
  · have hfin : takeText l most = ([], [], e) := by rw [HT.out, if_pos he]
    have HF := Lib.hid hfin; clear hfin
    have hne : (e == 0) = false := by simpa using he
    have hne2 : (e != 0) = true := by simpa using he
    clear he HT HN
    go_wp2_with fail
    go_ret3
    exact ⟨by rw [HF.out]; rfl, hb1⟩
end Go.Proofs.YtlcepboedifniaaGreatDoor

namespace Go.Proofs.YtlcepboedifniaaGreatDoor
open Go.RowKit Copyhold
end Go.Proofs.YtlcepboedifniaaGreatDoor

namespace Go.Proofs.YtlcepboedifniaaGreatDoor
open Go.RowKit Copyhold
theorem conv_after {w w' : World} {x : Int} {B : Nat} (hb : Below B ((w.alloc (.cells #[.int .u8 x] 5)).drew) w') (hB : w.heap.size < B) :
    (convert 63 9 (.slice (some ⟨w.heap.size, 0, none⟩) 1 1)).run Tryz.prog w' = .ok (.string ⟨[UInt8.ofNat x.toNat].toArray⟩) w' := by
  refine run_convert_own (xs := [x]) (base := 0) (n := 1) (e := 5) _ _ Tryz.underlying63 Tryz.underlying5 Tryz.underlying9 ⟨by simp, .inr ⟨w.heap.size, 1, #[.int .u8 x], rfl, Nat.zero_le _, ?_, Nat.le_refl _, by simp [maxLen], by simp, by simp⟩⟩
  rw [hb.block _ hB]
  exact heap_alloc_new w _
set_option maxRecDepth 100000 in
set_option maxHeartbeats 4000000 in
theorem ref_Num_aux (k : Nat) : ∀ (n : Int) (w : World), n < k → 0 ≤ n → n ≤ 18446744073709551615 →
    Calls Tryz.prog 49 #[.int .u64 n] w fun e w' => e = .returned (.string ⟨(numB n.toNat).toArray⟩) ∧ Below w.heap.size w w' := by
  induction k with
  | zero => intro n w h1 h2; omega
  | succ k ih =>
    intro n w hk h0 h1
    have IH := Lib.hid ih; clear ih
    by_cases hs : n < 128
    · have hcv : (convert 63 9 (.slice (some ⟨w.heap.size, 0, none⟩) 1 1)).run Tryz.prog (w.alloc (.cells #[.int .u8 n] 5)) = .ok (.string ⟨(numB n.toNat).toArray⟩) (w.alloc (.cells #[.int .u8 n] 5)) := by
        rw [numB_small (by omega)]
        exact run_convert_own (xs := [n]) _ _ Tryz.underlying63 Tryz.underlying5 Tryz.underlying9 (owns_built (base := 0) #[.int .u8 n] (Nat.zero_le _) (by simp [maxLen]))
      go_enter Tryz.func49, Tryz.ntmps49
      go_wp2_with fail
      go_ret
      exact ⟨rfl, (Below.refl _ _).alloc (Nat.le_refl _) _⟩
    · go_enter Tryz.func49, Tryz.ntmps49
      go_wp2_with fail
      have hcv1 : ∀ (x : Int) (W : World), (convert 63 9 (.slice (some ⟨W.heap.size, 0, none⟩) 1 1)).run Tryz.prog (W.alloc (.cells #[.int .u8 x] 5)).drew = .ok (.string ⟨[UInt8.ofNat x.toNat].toArray⟩) (W.alloc (.cells #[.int .u8 x] 5)).drew :=
        fun x W => run_convert_own (xs := [x]) _ _ Tryz.underlying63 Tryz.underlying5 Tryz.underlying9 (owns_built (w := W) (base := 0) #[.int .u8 x] (Nat.zero_le _) (by simp [maxLen])).drew
      have hcv2 : ∀ (x : Int) (W : World), (convert 63 9 (.slice (some ⟨W.heap.size, 0, none⟩) 1 1)).run Tryz.prog (W.alloc (.cells #[.int .u8 x] 5)) = .ok (.string ⟨[UInt8.ofNat x.toNat].toArray⟩) (W.alloc (.cells #[.int .u8 x] 5)) :=
        fun x W => run_convert_own (xs := [x]) _ _ Tryz.underlying63 Tryz.underlying5 Tryz.underlying9 (owns_built (w := W) (base := 0) #[.int .u8 x] (Nat.zero_le _) (by simp [maxLen]))
      have e1 : IntKind.u64.wrap (n.tdiv 128) = n / 128 := by
        rw [Int.tdiv_eq_ediv_of_nonneg h0]
        simp only [IntKind.wrap, IntKind.bits, IntKind.signed]
        have : n / 128 % 18446744073709551616 = n / 128 := by omega
        simpa using this
      have e2 : IntKind.u8.wrap (IntKind.u64.wrap (n.tmod 128 + 128)) = n % 128 + 128 := by
        rw [Int.tmod_eq_emod_of_nonneg h0]
        simp only [IntKind.wrap, IntKind.bits, IntKind.signed]
        have : (n % 128 + 128) % 18446744073709551616 % 256 = n % 128 + 128 := by omega
        simpa using this
      have hle := numB_len10 (n / 128).toNat (by omega)
      have hfin : UInt8.ofNat (n % 128 + 128).toNat :: numB (n / 128).toNat = numB n.toNat := by
        rw [numB_big (n := n.toNat) (by omega), show (n % 128 + 128).toNat = n.toNat % 128 + 128 from by omega, show (n / 128).toNat = n.toNat / 128 from by omega]
      have HF := Lib.hid hfin
      clear hfin
      go_region_with (go_at_call 49; refine (IH.out (n / 128) _ (by omega) (by omega) (by omega)).mono ?_; rintro e w' ⟨rfl, hb⟩; (try (have hcv3 := conv_after hb (by simp))))
      all_goals
        go_wp2_with fail
        go_ret
        refine ⟨by rw [← HF.out]; rfl, ?_⟩
        first
          | exact ((Below.refl w.heap.size w).alloc (Nat.le_refl _) _).drew.trans (hb.mono (by simp))
          | exact ((Below.refl w.heap.size w).drew.trans hb).alloc hb.size _
theorem ref_Num (n : Int) (w : World) (h0 : 0 ≤ n) (h1 : n ≤ 18446744073709551615) :
    Calls Tryz.prog 49 #[.int .u64 n] w fun e w' => e = .returned (.string ⟨(numB n.toNat).toArray⟩) ∧ Below w.heap.size w w' :=
  ref_Num_aux (n.toNat + 1) n w (by omega) h0 h1
theorem ref_Text (l : List UInt8) (w : World) (h : l.length ≤ 70368744177664) :
    Calls Tryz.prog 34 #[.string ⟨l.toArray⟩] w fun e w' => e = .returned (.string ⟨(textB l).toArray⟩) ∧ Below w.heap.size w w' := by
  have hn := numB_len10 l.length (by omega)
  go_enter Tryz.func34, Tryz.ntmps34
  go_wp2_with fail
  refine (ref_Num _ _ (by omega) (by omega)).mono ?_
  rintro e w1 ⟨rfl, hb1⟩
  rw [Int.toNat_natCast]
  go_wp2_with fail
  go_ret
  exact ⟨rfl, hb1⟩
end Go.Proofs.YtlcepboedifniaaGreatDoor

namespace Copyhold
theorem pow9 : (128 : Nat) ^ 9 = 9223372036854775808 := by decide
theorem tnGo_numB : ∀ (n k acc : Nat) (more : List UInt8), n * 128 ^ k < 18446744073709551616 → (k = 0 ∨ 0 < n) → tnGo k acc (numB n ++ more) = (acc + n * 128 ^ k, more, 0) := by
  intro n
  induction n using Nat.strongRecOn with
  | _ n ih =>
    intro k acc more hn h0
    have hk : k ≤ 9 := by
      rcases h0 with rfl | h0
      · omega
      · by_cases hk : k ≤ 9
        · exact hk
        · have h1 : (128 : Nat) ^ 10 ≤ 128 ^ k := Nat.pow_le_pow_right (by decide) (by omega)
          have h2 : 1 * 128 ^ k ≤ n * 128 ^ k := Nat.mul_le_mul_right _ h0
          have h3 : (128 : Nat) ^ 10 = 1180591620717411303424 := by decide
          omega
    have hk9 : k = 9 → n ≤ 1 := by
      rintro rfl
      rw [pow9] at hn
      omega
    by_cases hs : n < 128
    · rw [numB_small hs]
      have e : (UInt8.ofNat n).toNat = n := by simp; omega
      rw [List.cons_append, List.nil_append, tnGo, if_pos (by omega), e, if_pos hs, if_neg (by omega)]
    · rw [numB_big hs]
      have e : (UInt8.ofNat (n % 128 + 128)).toNat = n % 128 + 128 := by simp; omega
      rw [List.cons_append, tnGo, if_pos (by omega), e, if_neg (by omega)]
      have hd : n / 128 * 128 ^ (k + 1) + n % 128 * 128 ^ k = n * 128 ^ k := by
        rw [Nat.pow_succ, Nat.mul_comm (128 ^ k) 128, ← Nat.mul_assoc, ← Nat.add_mul]
        congr 1
        omega
      rw [ih (n / 128) (by omega) (k + 1) _ more (by omega) (.inr (by omega))]
      have : (n % 128 + 128) % 128 = n % 128 := by omega
      rw [this]
      congr 1
      omega
theorem takeNum_numB (n : Nat) (more : List UInt8) (h : n < 18446744073709551616) : takeNum (numB n ++ more) = (n, more, 0) := by
  unfold takeNum
  rw [tnGo_numB n 0 0 more (by simpa using h) (.inl rfl)]
  simp
theorem tnGo_laid : ∀ (l : List UInt8) (k acc : Nat), (tnGo k acc l).2.2 = 0 → ∃ n, (k = 0 ∨ 0 < n) ∧ (tnGo k acc l).1 = acc + n * 128 ^ k ∧ l = numB n ++ (tnGo k acc l).2.1
  | [], k, acc, h => by rw [tnGo] at h; split at h <;> simp at h
  | b :: r, k, acc, h => by
    have hb := b.toNat_lt
    rw [tnGo] at h ⊢
    split at h
    · rename_i h1
      rw [if_pos h1]
      split at h
      · rename_i h2
        rw [if_pos h2]
        split at h
        · simp at h
        · rename_i h3
          rw [if_neg h3]
          refine ⟨b.toNat, by omega, rfl, ?_⟩
          rw [numB_small h2]
          simp
      · rename_i h2
        rw [if_neg h2]
        obtain ⟨n, hn0, hn1, hn2⟩ := tnGo_laid r _ _ h
        have hn : 0 < n := by rcases hn0 with h | h <;> omega
        refine ⟨n * 128 + b.toNat % 128, .inr (by omega), ?_, ?_⟩
        · rw [hn1, Nat.pow_succ, Nat.add_mul, Nat.mul_comm (128 ^ k) 128, ← Nat.mul_assoc]
          omega
        · rw [numB_big (by omega), show (n * 128 + b.toNat % 128) / 128 = n from by omega, show (n * 128 + b.toNat % 128) % 128 + 128 = b.toNat from by omega, List.cons_append, ← hn2]
          simp
    · simp at h
theorem takeNum_laid (l : List UInt8) (h : (takeNum l).2.2 = 0) : l = numB (takeNum l).1 ++ (takeNum l).2.1 := by
  obtain ⟨n, _, h1, h2⟩ := tnGo_laid l 0 0 h
  have : (takeNum l).1 = n := by rw [takeNum, h1]; simp
  rw [this]
  exact h2
theorem takeCount_numB (n : Nat) (most : Int) (more : List UInt8) (h : n < 18446744073709551616) :
    takeCount (numB n ++ more) most = if most < 0 ∨ most < (n : Int) then (0, [], 5) else (n, more, 0) := by
  unfold takeCount
  rw [takeNum_numB n more h]
  simp
theorem takeText_textB (l : List UInt8) (most : Int) (more : List UInt8) (h : l.length < 18446744073709551616) :
    takeText (textB l ++ more) most = if most < 0 ∨ most < (l.length : Int) then ([], [], 5) else (l, more, 0) := by
  unfold takeText textB
  rw [List.append_assoc, takeCount_numB _ most _ h]
  split
  · simp
  · simp
end Copyhold

namespace Copyhold
def valB : List UInt8 → Nat
  | [] => 0
  | b :: r => b.toNat % 128 + 128 * valB r
theorem valB_snoc (x : List UInt8) (b : UInt8) : valB (x ++ [b]) = valB x + (b.toNat % 128) * 128 ^ x.length := by
  induction x with
  | nil => simp [valB]
  | cons y r ih =>
    simp only [List.cons_append, valB, ih, List.length_cons, Nat.pow_succ, Nat.mul_add]
    rw [Nat.mul_comm (128 ^ r.length) 128, Nat.mul_left_comm]
    omega
def TnHead (l : List UInt8) (i : Nat) : Prop := i ≤ l.length ∧ takeNum l = tnGo i (valB (l.take i)) (l.drop i)
theorem tnHead_zero (l : List UInt8) : TnHead l 0 := ⟨Nat.zero_le _, rfl⟩
theorem tnHead_succ {l : List UInt8} {i : Nat} (h : TnHead l i) (hi : i < l.length) (h10 : i < 10) (hb : ¬ l[i].toNat < 128) : TnHead l (i + 1) := by
  refine ⟨hi, ?_⟩
  rw [h.2, List.drop_eq_getElem_cons hi, tnGo, if_pos h10, if_neg hb]
  rw [List.take_succ_eq_append_getElem hi, valB_snoc, List.length_take, Nat.min_eq_left (by omega)]
theorem tnHead_ten {l : List UInt8} (h : TnHead l 10) : takeNum l = (0, [], 3) := by
  rw [h.2]; cases l.drop 10 <;> simp [tnGo]
theorem tnHead_end {l : List UInt8} {i : Nat} (h : TnHead l i) (hi : l.length ≤ i) (h10 : i < 10) : takeNum l = (0, [], 2) := by
  rw [h.2, List.drop_eq_nil_of_le hi, tnGo, if_pos h10]
theorem tnHead_last {l : List UInt8} {i : Nat} (h : TnHead l i) (hi : i < l.length) (h10 : i < 10) (hb : l[i].toNat < 128) :
    (takeNum l = (0, [], 3) ∧ numB (valB (l.take (i + 1)) % 18446744073709551616) ≠ l.take (i + 1)) ∨
    (takeNum l = (valB (l.take (i + 1)), l.drop (i + 1), 0) ∧ numB (valB (l.take (i + 1)) % 18446744073709551616) = l.take (i + 1) ∧ valB (l.take (i + 1)) < 18446744073709551616) := by
  have hv : valB (l.take (i + 1)) = valB (l.take i) + l[i].toNat * 128 ^ i := by
    rw [List.take_succ_eq_append_getElem hi, valB_snoc, List.length_take, Nat.min_eq_left (by omega), Nat.mod_eq_of_lt hb]
  have ht := h.2
  rw [List.drop_eq_getElem_cons hi, tnGo, if_pos h10, if_pos hb] at ht
  by_cases hc : i = 9 ∧ 1 < l[i].toNat ∨ 0 < i ∧ l[i].toNat = 0
  · rw [if_pos hc] at ht
    refine .inl ⟨ht, fun he => ?_⟩
    have := takeNum_numB (valB (l.take (i + 1)) % 18446744073709551616) (l.drop (i + 1)) (Nat.mod_lt _ (by decide))
    rw [he, List.take_append_drop, ht] at this
    simp at this
  · rw [if_neg hc, ← hv] at ht
    have hbd := (takeNum_bd l).1
    have hl := takeNum_laid l (by rw [ht])
    rw [ht] at hbd hl
    simp only at hbd hl
    refine .inr ⟨ht, ?_, hbd⟩
    rw [Nat.mod_eq_of_lt hbd]
    have h2 : l.take (i + 1) ++ l.drop (i + 1) = numB (valB (l.take (i + 1))) ++ l.drop (i + 1) := by rw [List.take_append_drop]; exact hl
    exact (List.append_cancel_right h2).symm
theorem valB_seg (l : List UInt8) (i k : Nat) (hk : k ≤ i) (hi : i < l.length) : valB ((l.take (i + 1)).drop k) = l[k].toNat % 128 + 128 * valB ((l.take (i + 1)).drop (k + 1)) := by
  have hlt : k < (l.take (i + 1)).length := by rw [List.length_take]; omega
  rw [List.drop_eq_getElem_cons hlt, valB]
  simp
end Copyhold

namespace Go.Proofs.YtlcepboedifniaaGreatDoor
open Go.RowKit Copyhold
attribute [local go_sem] piece
set_option maxRecDepth 100000 in
set_option maxHeartbeats 2000000 in
theorem ref_TakeNum (l : List UInt8) (w : World) (hl : l.length ≤ 140737488355328) :
    Calls Tryz.prog 59 #[.string ⟨l.toArray⟩] w fun e w' => e = .returned (.tuple #[.int .u64 (takeNum l).1, .string ⟨(takeNum l).2.1.toArray⟩, .int .i64 (takeNum l).2.2]) ∧ Below w.heap.size w w' := by
  go_enter Tryz.func59, Tryz.ntmps59
  go_wp2_with fail
  go_loop [5] (fun si => ∃ i : Nat, i < 10 ∧ TnHead l i ∧ si = .int .i64 i) (fun si => 10 - (intOf si).toNat)
  case atStart => exact ⟨0, by decide, tnHead_zero l, rfl⟩
  case round =>
    obtain ⟨i, hi10, hh, rfl⟩ := hrel
    have hil := hh.1
    have HH := Lib.hid hh
    clear hh
    by_cases hin : i < l.length
    · have hbb : l[i].toNat < 256 := l[i].toNat_lt
      have hbi : (⟨l.toArray⟩ : ByteArray)[i]'(by simpa [ByteArray.size] using hin) = l[i] := rfl
      by_cases hb : l[i].toNat < 128
      · have HE := Lib.hid (tnHead_last HH.out hin hi10 hb)
        go_wp2_with fail
        clear hbi hbb hb HH
        go_loop [6, 7] (fun sn sk => ∃ (j : Nat) (z : Int), j ≤ i + 1 ∧ 0 ≤ z ∧ z ≤ 18446744073709551615 ∧ z = ((valB ((l.take (i + 1)).drop j) % 18446744073709551616 : Nat) : Int) ∧ sk = .int .i64 ((j : Int) - 1) ∧ sn = .int .u64 z) (fun _ sk => (intOf sk + 1).toNat)
        case atStart => exact ⟨i + 1, 0, Nat.le_refl _, by omega, by omega, by rw [List.drop_eq_nil_of_le (by rw [List.length_take]; omega)]; rfl, by go_num, rfl⟩
        case round =>
          obtain ⟨j, z, hj, hz0, hz1, hz, rfl, rfl⟩ := hrel
          have HZ := Lib.hid hz
          clear hz
          by_cases hj0 : 0 < j
          · obtain ⟨k, rfl⟩ : ∃ k, j = k + 1 := ⟨j - 1, by omega⟩
            have hkl : k < l.length := by omega
            have hbk : (⟨l.toArray⟩ : ByteArray)[k]'(by simpa [ByteArray.size] using hkl) = l[k] := rfl
            have hbb : l[k].toNat < 256 := l[k].toNat_lt
            have HS := Lib.hid (valB_seg l i k (by omega) hin)
            have hk1 : ((k + 1 : Nat) : Int) - 1 = (k : Int) := by omega
            rw [hk1]
            clear hk1
            generalize l[k] = b at *
            go_wp2_with fail
            have hs := HS.out
            have hz := HZ.out
            exact ⟨⟨k, _, by omega, by rw [wrap_u64']; omega, by rw [wrap_u64']; omega, by rw [wrap_u64', wrap_u64', hs, hz]; first | done | omega, rfl, rfl⟩, by simp [intOf] <;> omega⟩
          · obtain rfl : j = 0 := by omega
            have hz := HZ.out
            rw [List.drop_zero] at hz
            clear HZ
            have hzn : z.toNat = valB (l.take (i + 1)) % 18446744073709551616 := by rw [hz, Int.toNat_natCast]
            have e1 : IntKind.i64.wrap ((i : Int) + 1) = (i : Int) + 1 := IntWalk.i64_in _ (by omega)
            have e2 : ((i : Int) + 1).toNat = i + 1 := by omega
            have e3 : (0 : Int) ≤ (i : Int) + 1 := by omega
            have e4 : (i : Int) + 1 ≤ (l.length : Int) := by omega
            have e5 : i + 1 ≤ l.length := by omega
            rcases HE.out with ⟨hbad, hne⟩ | ⟨hgood, heq, hlt⟩
            · rw [← hzn] at hne
              have hq : (numB z.toNat == l.take (i + 1)) = false := by simpa using hne
              have HB := Lib.hid hbad
              clear hbad hne hz hzn HE
              go_wp2_with fail
              go_region_with (go_at_call 49; refine (ref_Num _ _ hz0 hz1).mono ?_; rintro e w1 ⟨rfl, hb1⟩)
              all_goals
                clear e1 e2
                go_wp2_with fail
                go_ret3
                exact ⟨by rw [HB.out]; rfl, (Below.refl _ _).drew.trans hb1⟩
            · rw [← hzn] at heq
              have hzz : z = ((valB (l.take (i + 1)) : Nat) : Int) := by rw [hz, Nat.mod_eq_of_lt hlt]
              have HZ := Lib.hid hzz
              have HG := Lib.hid hgood
              clear hgood hz hzn HE hzz hlt
              go_wp2_with fail
              go_region_with (go_at_call 49; refine (ref_Num _ _ hz0 hz1).mono ?_; rintro e w1 ⟨rfl, hb1⟩)
              all_goals
                go_wp2_with fail
                go_quiet (fail)
                clear e1 e2
                go_wp2_with fail
                go_ret3
                exact ⟨by rw [HG.out]; exact ret3 (congrArg _ HZ.out) rfl rfl, below_drewN ((Below.refl _ _).drew.trans hb1) _⟩
      · have HE := Lib.hid (tnHead_succ HH.out hin hi10 hb)
        by_cases h9 : i = 9
        · have HT := Lib.hid (tnHead_ten (l := l) (by have h := HE.out; rwa [h9] at h))
          clear HE HH
          subst h9
          go_wp2_with fail
          go_ret3
          exact ⟨by rw [HT.out]; rfl, Below.refl _ _⟩
        · have h10 : i < 9 := by omega
          clear h9
          go_wp2_with fail
          exact ⟨⟨i + 1, by omega, HE.out, by go_num⟩, by simp [intOf]; omega⟩
    · have HE := Lib.hid (tnHead_end HH.out (by omega) hi10)
      go_wp2_with fail
      go_ret3
      exact ⟨by rw [HE.out]; rfl, Below.refl _ _⟩
set_option maxHeartbeats 1000000 in
theorem ref_TakeText (l : List UInt8) (most : Int) (w : World) (hl : l.length ≤ 140737488355328) (hm1 : -9223372036854775808 ≤ most) (hm2 : most ≤ 9223372036854775807) :
    Calls Tryz.prog 51 #[.string ⟨l.toArray⟩, .int .i64 most] w fun e w' => e = .returned (.tuple #[.string ⟨(takeText l most).1.toArray⟩, .string ⟨(takeText l most).2.1.toArray⟩, .int .i64 (takeText l most).2.2]) ∧ Below w.heap.size w w' := by
  have hbd := takeNum_bd l
  obtain ⟨z, hz⟩ : ∃ z : Int, z = ((takeNum l).1 : Int) := ⟨_, rfl⟩
  have hz0 : 0 ≤ z := by omega
  have hz1 : z ≤ 18446744073709551615 := by omega
  have hr : (takeNum l).2.1.length ≤ 140737488355328 := by omega
  have hz2 : z.toNat = (takeNum l).1 := by omega
  have HT := Lib.hid (show takeText l most = if (takeNum l).2.2 ≠ 0 then ([], [], (takeNum l).2.2) else if most < 0 ∨ most < z then ([], [], 5) else if (takeNum l).2.1.length < z.toNat then ([], [], 2) else ((takeNum l).2.1.take z.toNat, (takeNum l).2.1.drop z.toNat, 0) from by
    rw [hz2, hz]
    unfold takeText takeCount
    by_cases h1 : (takeNum l).2.2 ≠ 0
    · simp only [if_pos h1]
    · simp only [if_neg h1]
      by_cases h2 : most < 0 ∨ most < ((takeNum l).1 : Int)
      · simp [if_pos h2]
      · simp only [if_neg h2, if_neg h1])
  have HN := Lib.hid hz
  clear hbd hz hz2
  go_enter Tryz.func51, Tryz.ntmps51
  go_wp2_with fail
  refine (ref_TakeNum l _ hl).mono ?_
  rintro e w1 ⟨rfl, hb1⟩
  rw [← HN.out]
  clear HN
  generalize (takeNum l).2.1 = r at *
  generalize (takeNum l).2.2 = e at *
  by_cases he : e = 0
  · subst he
    rcases (show most < 0 ∨ 0 ≤ most ∧ most < z ∨ 0 ≤ most ∧ z ≤ most ∧ (r.length : Int) < z ∨ 0 ≤ most ∧ z ≤ most ∧ z ≤ (r.length : Int) from by omega) with h | ⟨h, h'⟩ | ⟨h, h', h''⟩ | ⟨h, h', h''⟩
    · have HF := Lib.hid (show takeText l most = ([], [], 5) by rw [HT.out, if_neg (by simp), if_pos (.inl h)])
      clear HT
      go_wp2_with fail
      go_ret3
      exact ⟨by rw [HF.out]; rfl, hb1⟩
    · have HF := Lib.hid (show takeText l most = ([], [], 5) by rw [HT.out, if_neg (by simp), if_pos (.inr h')])
      clear HT
      go_wp2_with fail
      go_ret3
      exact ⟨by rw [HF.out]; rfl, hb1⟩
    · have HF := Lib.hid (show takeText l most = ([], [], 2) by rw [HT.out, if_neg (by simp), if_neg (by omega), if_pos (by omega)])
      clear HT
      go_wp2_with fail
      go_ret3
      exact ⟨by rw [HF.out]; rfl, hb1⟩
    · obtain ⟨n, rfl⟩ := Int.eq_ofNat_of_zero_le hz0
      have HF := Lib.hid (show takeText l most = (r.take n, r.drop n, 0) by rw [HT.out, if_neg (by simp), if_neg (by omega), if_neg (by omega), Int.toNat_natCast])
      have hnl : n ≤ r.length := by omega
      clear HT hz1 hz0 h''
      go_wp2_with fail
      go_quiet (fail)
      go_wp2_with fail
      go_ret3
      refine ⟨?_, below_drewN hb1 _⟩
      rw [HF.out]
      first
        | rfl
        | exact ret3 (congrArg Value.string (piece r 0 n)) (congrArg Value.string (piece_end r n)) rfl
        | exact ret3 (by simp) (by simp) rfl
  · have HF := Lib.hid (show takeText l most = ([], [], e) by rw [HT.out, if_pos he])
    have hne : (e == 0) = false := by simpa using he
    have hne2 : (e != 0) = true := by simpa using he
    clear he HT
    go_wp2_with fail
    go_ret3
    exact ⟨by rw [HF.out]; rfl, hb1⟩
end Go.Proofs.YtlcepboedifniaaGreatDoor
