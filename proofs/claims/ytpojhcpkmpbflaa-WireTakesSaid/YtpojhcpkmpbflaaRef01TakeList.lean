/- copyholdref01.TakeList: the document's own answer: for every text of at most 2^31 bytes and bounds it is what takeList says: the texts in new memory, the rest, the error; old memory is as it was. -/
import Derived.Test.YtpojhcpkmpbflaaRef01Take
import Derived.Test.YtpojhcpkmpbflaaOctTakeList
namespace Go.Proofs.Ytpojhcpkmpbflaa
open Go.RowKit Copyhold

set_option maxHeartbeats 2000000 in
theorem ref_TakeList (l : List UInt8) (most long : Int) (w : World) (hl : l.length ≤ 2147483648) (hm1 : -9223372036854775808 ≤ most) (hm2 : most ≤ 9223372036854775807) (hg1 : -9223372036854775808 ≤ long) (hg2 : long ≤ 9223372036854775807) :
    Calls Try.prog 48 #[.string ⟨l.toArray⟩, .int .i64 most, .int .i64 long] w (RetTexts w (takeList l most long)) := by
  obtain ⟨i0, hi, hz0, hz1, hz2⟩ := info_parts info_string
  have hbd := takeNum_bd l
  obtain ⟨z, hz⟩ : ∃ z : Int, z = ((takeNum l).1 : Int) := ⟨_, rfl⟩
  have hz0' : 0 ≤ z := by omega
  have hz1' : z ≤ 18446744073709551615 := by omega
  have hr : (takeNum l).2.1.length ≤ 2147483648 := by omega
  have hzn : z.toNat = (takeNum l).1 := by omega
  have HT := Lib.hid (show takeList l most long = if (takeNum l).2.2 ≠ 0 then ([], [], (takeNum l).2.2) else if most < 0 ∨ most < z then ([], [], 5) else takeTexts long z.toNat [] (takeNum l).2.1 from by
    rw [hzn, hz]
    unfold takeList takeCount
    by_cases h1 : (takeNum l).2.2 ≠ 0
    · simp only [if_pos h1]
    · simp only [if_neg h1]
      by_cases h2 : most < 0 ∨ most < ((takeNum l).1 : Int)
      · simp [if_pos h2]
      · simp only [if_neg h2, if_neg h1])
  have HN := Lib.hid hz
  clear hbd hz hzn
  go_enter Try.func48, Try.ntmps48
  go_wp2_with fail
  refine (ref_TakeNum l _ (by omega)).mono ?_
  rintro e w1 ⟨rfl, hb1⟩
  rw [← HN.out]
  clear HN
  generalize (takeNum l).2.1 = r0 at *
  generalize (takeNum l).2.2 = e at *
  have hs1 := hb1.size
  by_cases he : e = 0
  · subst he
    rcases (show most < 0 ∨ 0 ≤ most ∧ most < z ∨ 0 ≤ most ∧ z ≤ most from by omega) with h | ⟨h, h'⟩ | ⟨h, h'⟩
    · have HF := Lib.hid (show takeList l most long = ([], [], 5) by rw [HT.out, if_neg (by simp), if_pos (.inl h)])
      clear HT
      go_wp2_with fail
      go_ret3
      rw [HF.out]
      exact ⟨_, rfl, World.ownsRow_nil _ _ _ _, hb1⟩
    · have HF := Lib.hid (show takeList l most long = ([], [], 5) by rw [HT.out, if_neg (by simp), if_pos (.inr h')])
      clear HT
      go_wp2_with fail
      go_ret3
      rw [HF.out]
      exact ⟨_, rfl, World.ownsRow_nil _ _ _ _, hb1⟩
    · have HF := Lib.hid (show takeList l most long = takeTexts long z.toNat [] r0 by rw [HT.out, if_neg (by simp), if_neg (by omega)])
      clear HT
      have hg0 : (decide (most < 0)) = false := by simp; omega
      have hg3 : (decide (most < z)) = false := by simp; omega
      go_wp2_with fail
      go_loopw [10, 12, 13] (fun sr sv si wr => ∃ (k : Nat) (acc : List (List UInt8)) (r : List UInt8), sr = .string ⟨r.toArray⟩ ∧ si = .int .u64 k ∧ TlRel w long z r0 k acc r sv wr) (fun _ _ si _ => (z - intOf si).toNat)
      case atStart => exact ⟨0, [], r0, rfl, rfl, rfl, hz0', Nat.le_refl _, rfl, World.ownsRow_nil _ _ _ _, hb1⟩
      case round =>
        obtain ⟨k, acc, r, rfl, rfl, hak, hkz, hrl, htt, hown, hb⟩ := hrel
        have hsz := hb.size
        have HTT := Lib.hid htt; clear htt
        have HAK := Lib.hid hak; clear hak
        by_cases hlt : (k : Int) < z
        · have htb := takeText_bd r long
          have htr := takeText_rest r long
          have hunf : takeTexts long (z.toNat - k) acc r = if (takeText r long).2.2 ≠ 0 then ([], [], (takeText r long).2.2) else takeTexts long (z.toNat - (k + 1)) (acc ++ [(takeText r long).1]) (takeText r long).2.1 := by
            rw [show z.toNat - k = (z.toNat - (k + 1)) + 1 from by omega]; rfl
          have HU := Lib.hid hunf
          have HR := Lib.hid htr
          clear hunf htr
          go_wp2_with fail
          refine (ref_TakeText r long _ (by omega) hg1 hg2).mono ?_
          rintro e w2 ⟨rfl, hb2⟩
          have hs2 := hb2.size
          generalize hx : takeText r long = x at *
          clear hx
          obtain ⟨t, r', e⟩ := x
          simp only at htb HU HR ⊢
          obtain ⟨_, hr', _, _⟩ := htb
          by_cases he : e = 0
          · subst he
            have hstep : takeTexts long (z.toNat - (k + 1)) (acc ++ [t]) r' = takeTexts long z.toNat [] r0 := by rw [← HTT.out, HU.out, if_neg (by simp)]
            have HS := Lib.hid hstep
            have hrr : r'.length + 1 ≤ r.length := HR.out rfl
            have hown2 := owns_below hown hb2
            clear hstep HU HR
            go_wp2_with (at_builtin; refine wpList_append_own _ rfl _ _ 27 rfl w.heap.size 9 i0 (.string ByteArray.empty) 1 16 Try.underlying27 hi hz0 hz1 hz2 rfl (by decide) _ _ _ rfl (hown2.alloc _) ⟨w2.heap.size, 0, none⟩ 1 1 [.string ⟨t.toArray⟩] rfl rfl (cell_one_new _ _ _) (fun x hx => by simp at hx; subst hx; rfl) (by unfold maxLen; omega) (by omega) (by simp; omega) ?_; intro v' w3 hown' hgrow3 hnil3; clear hnil3)
            go_roundw
            case rel => exact ⟨k + 1, acc ++ [t], r', rfl, by go_num, by rw [List.length_append, HAK.out]; rfl, by omega, by omega, HS.out, by rw [List.map_append]; exact hown', ((hb.trans (hb2.mono hsz)).alloc (by omega) _).grown hgrow3 (by simp; omega) (fun q hq => (hown.lt q hq).1)⟩
            case measure => simp [intOf]; omega
          · have hfin : takeList l most long = ([], [], e) := by rw [HF.out, ← HTT.out, HU.out, if_pos he]
            have HFF := Lib.hid hfin
            have hne : (e == 0) = false := by simpa using he
            have hne2 : (e != 0) = true := by simpa using he
            clear hfin he HU HR
            go_wp2_with fail
            go_ret3
            rw [HFF.out]
            exact ⟨_, rfl, World.ownsRow_nil _ _ _ _, hb.trans (hb2.mono hsz)⟩
        · have hkz' : (k : Int) = z := by omega
          have hfin : takeList l most long = (acc, r, 0) := by
            rw [HF.out, ← HTT.out, show z.toNat - k = 0 from by omega]; rfl
          have HFF := Lib.hid hfin
          clear hfin hkz'
          go_wp2_with fail
          go_ret3
          rw [HFF.out]
          exact ⟨_, rfl, by rw [HAK.out]; exact hown, hb⟩
  · have hfin : takeList l most long = ([], [], e) := by rw [HT.out, if_pos he]
    have HF := Lib.hid hfin; clear hfin
    have hne : (e == 0) = false := by simpa using he
    have hne2 : (e != 0) = true := by simpa using he
    clear he HT
    go_wp2_with fail
    go_ret3
    rw [HF.out]
    exact ⟨_, rfl, World.ownsRow_nil _ _ _ _, hb1⟩
end Go.Proofs.Ytpojhcpkmpbflaa
