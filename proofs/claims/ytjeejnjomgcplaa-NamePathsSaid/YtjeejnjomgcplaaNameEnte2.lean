/- copyholdref06.Enter, Leave: they answer as the document says; old memory is as it was. -/
import Derived.Test.YtjeejnjomgcplaaNameEnter
set_option linter.unusedVariables false
namespace Go.Proofs.Ytjeejnjomgcplaa
open Go.RowKit Copyhold Copyhold.Name

theorem less_pos {l : List Ent} {s : List UInt8} (h : Srt l) (k : Nat) (hk : k < l.length) : Op.bytesLess l[k].1 s = decide (k < pos l s) := by
  have := geAt_lt (s := s) h k hk
  unfold geAt at this
  rw [gete l k hk] at this
  rw [less_eq]
  by_cases h1 : pos l s ≤ k
  · rw [decide_eq_true h1] at this
    rw [decide_eq_false (by omega : ¬ k < pos l s)]
    simpa using this
  · rw [decide_eq_false h1] at this
    rw [decide_eq_true (by omega : k < pos l s)]
    simpa using this

set_option maxHeartbeats 4000000 in
theorem ref06_Enter (l : List Ent) (s : List UInt8) (n : Int) (A : Option Addr) (c : Nat) (w : World) (hl : Ents w (.slice A l.length c) l) (hlen : l.length ≤ 256) (hsrt : Srt l) (hs : s.length ≤ 140737488351232) (hn1 : -9223372036854775808 ≤ n) (hn2 : n ≤ 9223372036854775807) :
    Calls Try.prog 23 #[.slice A l.length c, .string ⟨s.toArray⟩, .int .i64 n] w (RetEnt w (enterF l s n)) := by
  have HC := Lib.hid (fun W : World => ref06_Check s W hs)
  have HK := Lib.hid (ref06_Find l s A c w hl (by omega))
  have HL := Lib.hid hl
  rcases enter_cases' l s n with ⟨h1, hr⟩ | ⟨h1, h2, hr⟩ | ⟨h1, h2, h3, hr⟩ | ⟨h1, h2, h3, h4, hr⟩ | ⟨h1, h2, h3, h4, hr⟩
  · have HRR := Lib.hid hr
    have HD : Hid (checkD s = 10) := Lib.hid (by rw [checkD, h1]; rfl)
    unfold findR at HK
    clear hl h1 hr hsrt
    generalize isAt l s = q at *
    generalize (getE l s).getD 0 = u at *
    go_enter Try.func23, Try.ntmps23
    go_wp2_with fail
    refine (HC.out _).mono ?_
    rintro e w1 ⟨rfl, rfl⟩
    rw [HD.out]
    go_wp2_with fail
    refine HK.out.mono ?_
    rintro e w1 ⟨rfl, rfl⟩
    go_wp2_with fail
    go_ret2
    exact ⟨_, by rw [HRR.out]; rfl, by rw [HRR.out]; exact HL.out, Below.refl _ _⟩
  · have HRR := Lib.hid hr
    have HD : Hid (checkD s = 0) := Lib.hid (by rw [checkD, h1]; rfl)
    have hd1 : decide (n < 1) = true := by simpa using h2
    unfold findR at HK
    clear hl h1 hr hsrt
    generalize isAt l s = q at *
    generalize (getE l s).getD 0 = u at *
    go_enter Try.func23, Try.ntmps23
    go_wp2_with fail
    refine (HC.out _).mono ?_
    rintro e w1 ⟨rfl, rfl⟩
    rw [HD.out]
    go_wp2_with fail
    refine HK.out.mono ?_
    rintro e w1 ⟨rfl, rfl⟩
    go_wp2_with fail
    go_ret2
    exact ⟨_, by rw [HRR.out]; rfl, by rw [HRR.out]; exact HL.out, Below.refl _ _⟩
  · have HRR := Lib.hid hr
    have HD : Hid (checkD s = 0) := Lib.hid (by rw [checkD, h1]; rfl)
    have hd1 : decide (n < 1) = false := by simpa using h2
    unfold findR at HK
    rw [h3] at HK
    clear hl h1 h3 hr hsrt
    generalize (getE l s).getD 0 = u at *
    go_enter Try.func23, Try.ntmps23
    go_wp2_with fail
    refine (HC.out _).mono ?_
    rintro e w1 ⟨rfl, rfl⟩
    rw [HD.out]
    go_wp2_with fail
    refine HK.out.mono ?_
    rintro e w1 ⟨rfl, rfl⟩
    go_wp2_with fail
    go_ret2
    exact ⟨_, by rw [HRR.out]; rfl, by rw [HRR.out]; exact HL.out, Below.refl _ _⟩
  · have HRR := Lib.hid hr
    have HD : Hid (checkD s = 0) := Lib.hid (by rw [checkD, h1]; rfl)
    have hd1 : decide (n < 1) = false := by simpa using h2
    have hd2 : decide (256 ≤ (l.length : Int)) = true := by simp; omega
    unfold findR at HK
    rw [h3] at HK
    clear hl h1 h3 hr hsrt
    generalize (getE l s).getD 0 = u at *
    go_enter Try.func23, Try.ntmps23
    go_wp2_with fail
    refine (HC.out _).mono ?_
    rintro e w1 ⟨rfl, rfl⟩
    rw [HD.out]
    go_wp2_with fail
    refine HK.out.mono ?_
    rintro e w1 ⟨rfl, rfl⟩
    go_wp2_with fail
    go_ret2
    exact ⟨_, by rw [HRR.out]; rfl, by rw [HRR.out]; exact HL.out, Below.refl _ _⟩
  · have hp := pos_le l s
    have HINS := Lib.hid (take_ins hsrt s n)
    have HRR := Lib.hid hr
    have HD : Hid (checkD s = 0) := Lib.hid (by rw [checkD, h1]; rfl)
    have hd1 : decide (n < 1) = false := by simpa using h2
    have hd2 : decide (256 ≤ (l.length : Int)) = false := by simp; omega
    unfold findR at HK
    rw [h3] at HK
    have HLS := Lib.hid (fun k (hk : k < l.length) => less_pos (s := s) hsrt k hk)
    have hpost := fun W : World => run_post entElem A l.length c (pos l s) hp W
    have HPOST : Hid (∀ W, Below w.heap.size w W → Ents W (.slice (cutA A c (pos l s) 2) (l.length - pos l s) (c - pos l s)) (l.drop (pos l s))) := Lib.hid fun W hW => by
      have := Sl.post (hl.below hW) (pos l s) hp
      unfold Ents
      rw [flatMap_drop, List.length_drop]
      exact this
    clear hl h1 h2 h3 hr hsrt
    generalize pos l s = p at *
    generalize (getE l s).getD 0 = u at *
    go_enter Try.func23, Try.ntmps23
    go_wp2_with fail
    refine (HC.out _).mono ?_
    rintro e w1 ⟨rfl, rfl⟩
    rw [HD.out]
    go_wp2_with fail
    refine HK.out.mono ?_
    rintro e w1 ⟨rfl, rfl⟩
    go_wp2_with fail
    go_loopw [11, 12] (fun so si wr => ∃ k : Nat, si = .int .i64 k ∧ k ≤ p ∧ wr.ownsRow w.heap.size 55 2 so k ((l.take k).flatMap entC) ∧ Below w.heap.size w wr) (fun _ si _ => l.length - (intOf si).toNat)
    case atStart => exact ⟨0, rfl, Nat.zero_le _, by simpa using World.ownsRow_nil w w.heap.size 55 2, Below.refl _ _⟩
    case round =>
      obtain ⟨k, rfl, hk, hown, hb⟩ := hrel
      by_cases hkp : k < p
      · have hkl : k < l.length := by omega
        obtain ⟨b, off, rfl, hbk, _, hc1, hc2⟩ := (HL.out.below hb).at k hkl
        have hls := HLS.out k hkl
        rw [decide_eq_true hkp] at hls
        have hst : (l.take (k + 1)).flatMap entC = (l.take k).flatMap entC ++ [strV l[k].1, .int .i64 l[k].2] := by
          rw [List.take_succ_eq_append_getElem hkl, List.flatMap_append]
          simp [entC]
        have HST := Lib.hid hst
        clear hst
        generalize l[k] = x at *
        have hs4 : Ents (wr.alloc (.cells #[strV x.1, .int .i64 x.2] 55)) (.slice (some ⟨wr.heap.size, 0, none⟩) 1 1) [x] := slN wr #[strV x.1, .int .i64 x.2] _
        obtain ⟨v4, w4, hr4, ho4, hg4⟩ := ents_app (hown.alloc _) _ _ hs4 (by simp; omega) (by have := hb.size; simp; omega)
        have HO4 := Lib.hid ho4
        have HB4 := Lib.hid ((hb.alloc hb.size (.cells #[strV x.1, .int .i64 x.2] 55)).grown hg4 (by have := hb.size; simp; omega) (fun g hg => (own_block_ge hown g hg).1))
        unfold strV at hr4
        clear hs4 ho4 hg4 hown hb hpost
        go_wp2_with (at_builtin; refine wpList_append_run rfl _ _ _ rfl _ _ _ _ rfl rfl hr4 ?_)
        go_roundw
        case rel => exact ⟨k + 1, by go_num, by omega, by rw [HST.out]; simpa [entC] using HO4.out, HB4.out⟩
        case measure => simp [intOf]; omega
      · obtain rfl : k = p := by omega
        have hs4 : Ents (wr.alloc (.cells #[.string ⟨s.toArray⟩, .int .i64 n] 55)) (.slice (some ⟨wr.heap.size, 0, none⟩) 1 1) [(s, n)] := slN wr #[.string ⟨s.toArray⟩, .int .i64 n] _
        obtain ⟨v4, w4, hr4, ho4, hg4⟩ := ents_app (hown.alloc _) _ _ hs4 (by simp; omega) (by have := hb.size; simp; omega)
        have hb4 := (hb.alloc hb.size (.cells #[.string ⟨s.toArray⟩, .int .i64 n] 55)).grown hg4 (by have := hb.size; simp; omega) (fun g hg => (own_block_ge hown g hg).1)
        obtain ⟨v5, w5, hr5, ho5, hg5⟩ := ents_app ho4 _ _ (HPOST.out w4 hb4) (by simp; omega) hb4.size
        have hb5 := hb4.grown hg5 hb4.size (fun g hg => (own_block_ge ho4 g hg).1)
        have hfin : Ents w5 v5 (insE l (s, n)) := by
          rw [← HINS.out]
          refine ents_of_owns (n := _) (base := w.heap.size) (by
            rw [List.flatMap_append, List.flatMap_cons, ← List.append_assoc]
            simpa using ho5)
        have HF := Lib.hid (And.intro hfin hb5)
        by_cases hkl : k < l.length
        · obtain ⟨b, off, rfl, hbk, _, hc1, hc2⟩ := (HL.out.below hb).at k hkl
          have hls := HLS.out k hkl
          rw [decide_eq_false (by omega)] at hls
          generalize l[k] = x at *
          clear hown hb hs4 ho4 hg4 hb4 ho5 hg5 hb5 hfin
          go_wp2_with (at_builtin; first | refine wpList_append_run rfl _ _ _ rfl _ _ _ _ rfl rfl hr4 ?_ | refine wpList_append_run rfl _ _ _ rfl _ _ _ _ rfl rfl hr5 ?_)
          go_ret2
          exact ⟨v5, by rw [HRR.out]; rfl, by rw [HRR.out]; exact HF.out.1, HF.out.2⟩
        · have hkq : decide ((k : Int) < (l.length : Int)) = false := by simp; omega
          clear hown hb hs4 ho4 hg4 hb4 ho5 hg5 hb5 hfin
          go_wp2_with (at_builtin; first | refine wpList_append_run rfl _ _ _ rfl _ _ _ _ rfl rfl hr4 ?_ | refine wpList_append_run rfl _ _ _ rfl _ _ _ _ rfl rfl hr5 ?_)
          go_ret2
          exact ⟨v5, by rw [HRR.out]; rfl, by rw [HRR.out]; exact HF.out.1, HF.out.2⟩

theorem del_take (l : List Ent) (s : List UInt8) (k : Nat) (hk : k < l.length) : delE (l.take (k + 1)) s = delE (l.take k) s ++ (if l[k].1 == s then [] else [l[k]]) := by
  unfold delE
  rw [List.take_succ_eq_append_getElem hk, List.filter_append]
  congr 1
  cases h : (l[k].1 == s) <;> simp [h]

set_option maxHeartbeats 4000000 in
theorem ref06_Leave (l : List Ent) (s : List UInt8) (A : Option Addr) (c : Nat) (w : World) (hl : Ents w (.slice A l.length c) l) (hlen : l.length ≤ 256) :
    Calls Try.prog 25 #[.slice A l.length c, .string ⟨s.toArray⟩] w (RetLv w (leaveF l s)) := by
  have HK := Lib.hid (ref06_Find l s A c w hl (by omega))
  have HL := Lib.hid hl
  unfold findR at HK
  cases h3 : isAt l s with
  | false =>
    have HRR : Hid (leaveF l s = (l, 0, 6)) := Lib.hid (by simp [leaveF, h3])
    rw [h3] at HK
    generalize (getE l s).getD 0 = u at *
    clear hl h3
    go_enter Try.func25, Try.ntmps25
    go_wp2_with fail
    refine HK.out.mono ?_
    rintro e w1 ⟨rfl, rfl⟩
    go_wp2_with fail
    go_ret3
    exact ⟨_, by rw [HRR.out]; rfl, by rw [HRR.out]; exact HL.out, Below.refl _ _⟩
  | true =>
    have HRR : Hid (leaveF l s = (delE l s, (getE l s).getD 0, 0)) := Lib.hid (by simp [leaveF, h3])
    rw [h3] at HK
    generalize (getE l s).getD 0 = u at *
    clear hl h3
    go_enter Try.func25, Try.ntmps25
    go_wp2_with fail
    refine HK.out.mono ?_
    rintro e w1 ⟨rfl, rfl⟩
    go_wp2_with fail
    go_loopw [9, 10] (fun so si wr => ∃ (k n : Nat), si = .int .i64 k ∧ k ≤ l.length ∧ n ≤ k ∧ wr.ownsRow w.heap.size 55 2 so n ((delE (l.take k) s).flatMap entC) ∧ Below w.heap.size w wr) (fun _ si _ => l.length - (intOf si).toNat)
    case atStart => exact ⟨0, 0, rfl, Nat.zero_le _, Nat.le_refl _, by simpa [delE] using World.ownsRow_nil w w.heap.size 55 2, Below.refl _ _⟩
    case round =>
      obtain ⟨k, n, rfl, hk, hnk, hown, hb⟩ := hrel
      by_cases hkl : k < l.length
      · obtain ⟨b, off, rfl, hbk, _, hc1, hc2⟩ := (HL.out.below hb).at k hkl
        have hst := del_take l s k hkl
        have HST := Lib.hid hst
        clear hst
        generalize l[k] = x at *
        cases hq : (x.1 == s)
        · have hs4 : Ents (wr.alloc (.cells #[strV x.1, .int .i64 x.2] 55)) (.slice (some ⟨wr.heap.size, 0, none⟩) 1 1) [x] := slN wr #[strV x.1, .int .i64 x.2] _
          obtain ⟨v4, w4, hr4, ho4, hg4⟩ := ents_app (hown.alloc _) _ _ hs4 (by simp; omega) (by have := hb.size; simp; omega)
          have HO4 := Lib.hid ho4
          have HB4 := Lib.hid ((hb.alloc hb.size (.cells #[strV x.1, .int .i64 x.2] 55)).grown hg4 (by have := hb.size; simp; omega) (fun g hg => (own_block_ge hown g hg).1))
          unfold strV at hr4
          have HQ := Lib.hid hq
          clear hs4 ho4 hg4 hown hb
          go_wp2_with (at_builtin; refine wpList_append_run rfl _ _ _ rfl _ _ _ _ rfl rfl hr4 ?_)
          go_roundw
          case rel => exact ⟨k + 1, n + 1, by go_num, by omega, by omega, by rw [HST.out, HQ.out, List.flatMap_append]; simpa [entC] using HO4.out, HB4.out⟩
          case measure => simp [intOf]; omega
        · have hq2 : (x.1 != s) = false := by simpa [bne] using hq
          have HQ := Lib.hid hq
          have HO := Lib.hid hown
          have HB := Lib.hid hb
          clear hown hb
          go_wp2_with fail
          go_roundw
          case rel => exact ⟨k + 1, n, by go_num, by omega, by omega, by rw [HST.out, HQ.out]; simpa using HO.out, HB.out⟩
          case measure => simp [intOf]; omega
      · have hfin : Ents wr u9 (delE l s) := by
          rw [List.take_of_length_le (by omega)] at hown
          exact ents_of_owns hown
        have HF := Lib.hid (And.intro hfin hb)
        clear hfin hown hb
        go_wp2_with fail
        go_ret3
        exact ⟨_, by rw [HRR.out]; rfl, by rw [HRR.out]; exact HF.out.1, HF.out.2⟩
end Go.Proofs.Ytjeejnjomgcplaa
