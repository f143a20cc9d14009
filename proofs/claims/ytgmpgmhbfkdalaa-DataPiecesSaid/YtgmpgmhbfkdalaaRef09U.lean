/- copyholdref03.Of, copyholdref09.Unlike: they answer as the document says; old memory is as it was. -/
import Derived.Test.YtgmpgmhbfkdalaaRef09P
set_option linter.unusedVariables false
namespace Go.Proofs.Ytgmpgmhbfkdalaa
open Go.RowKit Copyhold

theorem ref_Of_ok (a b : Nat) (w : World) (h : ofOk a b) :
    Calls Try.prog 30 #[.int .i64 a, .int .i64 b] w fun e w' => e = .returned (.tuple #[.complex .f64 (fl a) (fl b), .int .i64 0]) ∧ w = w' := by
  obtain ⟨_, _, h3, h4⟩ := h
  have h1 : (0 : Int) ≤ (a : Int) := by omega
  have h2 : (0 : Int) ≤ (b : Int) := by omega
  have ha := fl_conv a
  have hb := fl_conv b
  go_enter Try.func30, Try.ntmps30
  go_wp2_with fail
  go_ret2
  exact ⟨rfl, rfl⟩
theorem ref_Of9 (x y : Int) (a b : Nat) (w : World) (hx : x = a) (hy : y = b) (h : a + b ≤ 1099511627776) :
    Calls Try.prog 30 #[.int .i64 x, .int .i64 y] w fun e w' => e = .returned (.tuple #[.complex .f64 (fl a) (fl b), .int .i64 0]) ∧ w = w' := by
  subst hx hy
  exact ref_Of_ok a b w (by unfold ofOk; omega)

theorem spanElem : Elem Try.prog 40 57 (.complex .f64 0 0) 1 16 := ⟨by kernel_rfl, by kernel_rfl, rfl, by decide⟩

/-- where the loop stands: nothing is open, or a span from f on -/
def Stand (a b : List UInt8) (k : Nat) (z : Int) (acc : List (Nat × Nat)) : Prop :=
  (z = -1 ∧ acc = unlikeR a b (min k (max a.length b.length)) ∧ (acc = [] ∨ endR acc < k)) ∨
  ∃ f : Nat, z = f ∧ f < k ∧ k ≤ max a.length b.length ∧ unlikeR a b k = (f, k - f) :: acc

theorem stand_len {a b : List UInt8} {k : Nat} {z : Int} {acc : List (Nat × Nat)} (h : Stand a b k z acc) : acc.length ≤ max a.length b.length := by
  rcases h with ⟨_, rfl, _⟩ | ⟨f, _, _, hk, hu⟩
  · have := (unlikeR_end a b (min k (max a.length b.length))).2.1; omega
  · have := (unlikeR_end a b k).2.1; rw [hu] at this; simp at this; omega

theorem stand_open {a b : List UInt8} {k : Nat} {acc : List (Nat × Nat)} (h : Stand a b k (-1) acc) (hk : k < max a.length b.length) (hd : a[k]? ≠ b[k]?) : Stand a b (k + 1) k acc := by
  rcases h with ⟨_, rfl, he⟩ | ⟨f, hf, _⟩
  · refine .inr ⟨k, rfl, by omega, by omega, ?_⟩
    rw [show min k (max a.length b.length) = k from by omega] at he ⊢
    rw [unlikeR, if_neg hd, show k + 1 - k = 1 from by omega]
    cases hu : unlikeR a b k with
    | nil => rfl
    | cons x r =>
      rw [hu] at he
      rcases he with he | he
      · cases he
      · simp only [endR] at he
        rw [bumpR, if_neg (by omega)]
  · omega
theorem stand_on {a b : List UInt8} {k f : Nat} {acc : List (Nat × Nat)} (h : Stand a b k f acc) (hk : k < max a.length b.length) (hd : a[k]? ≠ b[k]?) : Stand a b (k + 1) f acc := by
  rcases h with ⟨h, _⟩ | ⟨f', hf, hfk, _, hu⟩
  · omega
  · have hff : f' = f := by omega
    subst hff
    refine .inr ⟨f', rfl, by omega, by omega, ?_⟩
    rw [unlikeR, if_neg hd, hu, bumpR, if_pos (by omega), show k - f' + 1 = k + 1 - f' from by omega]
theorem stand_same {a b : List UInt8} {k : Nat} {acc : List (Nat × Nat)} (h : Stand a b k (-1) acc) (hs : k < max a.length b.length → a[k]? = b[k]?) : Stand a b (k + 1) (-1) acc := by
  rcases h with ⟨_, rfl, he⟩ | ⟨f, hf, _⟩
  · refine .inl ⟨rfl, ?_, ?_⟩
    · by_cases hk : k < max a.length b.length
      · rw [show min k (max a.length b.length) = k from by omega, show min (k + 1) (max a.length b.length) = k + 1 from by omega, unlikeR, if_pos (hs hk)]
      · rw [show min k (max a.length b.length) = min (k + 1) (max a.length b.length) from by omega]
    · rcases he with he | he
      · exact .inl he
      · exact .inr (by omega)
  · omega
theorem stand_shut {a b : List UInt8} {k f : Nat} {acc : List (Nat × Nat)} (h : Stand a b k f acc) (hs : k < max a.length b.length → a[k]? = b[k]?) : Stand a b (k + 1) (-1) ((f, k - f) :: acc) ∧ f < k ∧ k ≤ max a.length b.length := by
  rcases h with ⟨h, _⟩ | ⟨f', hf, hfk, hkn, hu⟩
  · omega
  · have hff : f' = f := by omega
    subst hff
    refine ⟨.inl ⟨rfl, ?_, .inr (by simp only [endR]; omega)⟩, hfk, hkn⟩
    rw [← hu]
    by_cases hk : k < max a.length b.length
    · rw [show min (k + 1) (max a.length b.length) = k + 1 from by omega, unlikeR, if_pos (hs hk)]
    · rw [show min (k + 1) (max a.length b.length) = k from by omega]
theorem stand_end {a b : List UInt8} {k : Nat} {z : Int} {acc : List (Nat × Nat)} (h : Stand a b k z acc) (hk : max a.length b.length < k) : acc.reverse = unlikeD a b := by
  rcases h with ⟨_, rfl, _⟩ | ⟨f, _, _, hkn, _⟩
  · unfold unlikeD
    rw [show min k (max a.length b.length) = max a.length b.length from by omega]
  · omega

set_option maxRecDepth 100000 in
set_option maxHeartbeats 8000000 in
theorem ref09_Unlike (a b : List UInt8) (w : World) (ha : a.length ≤ 1000000) (hb : b.length ≤ 1000000) :
    Calls Try.prog 23 #[.string ⟨a.toArray⟩, .string ⟨b.toArray⟩] w (RetSpans w (unlikeD a b)) := by
  go_enter Try.func23, Try.ntmps23
  go_wp2_with fail
  go_loopw [5, 6, 7] (fun so sf si wr => ∃ (k : Nat) (z : Int) (acc : List (Nat × Nat)), si = .int .i64 k ∧ sf = .int .i64 z ∧ k ≤ max a.length b.length + 1 ∧ Stand a b k z acc ∧ wr.ownsRow w.heap.size 57 1 so acc.length (acc.reverse.map spanV) ∧ Below w.heap.size w wr) (fun _ _ si _ => max a.length b.length + 1 - (intOf si).toNat)
  case atStart => exact ⟨0, -1, [], rfl, rfl, by omega, .inl ⟨rfl, by simp [unlikeR], .inl rfl⟩, by simpa using World.ownsRow_nil w w.heap.size 57 1, Below.refl _ _⟩
  case round =>
    obtain ⟨k, z, acc, rfl, rfl, hk, hst, hown, hbb⟩ := hrel
    have hal := stand_len hst
    have HST := Lib.hid hst
    have HOWN := Lib.hid hown
    clear hst hown
    rcases (show k < a.length ∧ k < b.length ∨ k < a.length ∧ b.length ≤ k ∨ a.length ≤ k ∧ k ≤ a.length ∧ k < b.length ∨ a.length < k ∧ k < b.length ∨ a.length ≤ k ∧ k ≤ a.length ∧ b.length ≤ k ∨ a.length < k ∧ b.length ≤ k ∧ k ≤ b.length ∨ a.length < k ∧ b.length < k from by omega) with ⟨pa, pb⟩ | ⟨pa, pb⟩ | ⟨pa, pa', pb⟩ | ⟨pa, pb⟩ | ⟨pa, pa', pb⟩ | ⟨pa, pb, pb'⟩ | ⟨pa, pb⟩
    · by_cases hs : a[k]? = b[k]?
      · have HSAME : Hid (k < max a.length b.length → a[k]? = b[k]?) := Lib.hid (fun _ => hs)
        have HS := Lib.hid hs
        clear hs
        rcases (show z = -1 ∨ ∃ f : Nat, z = f from by rcases HST.out with ⟨h, _⟩ | ⟨f, h, _⟩; exact .inl h; exact .inr ⟨f, h⟩) with rfl | ⟨f, rfl⟩
        · have HST2 := Lib.hid (stand_same HST.out HSAME.out)
          go_wp2_with fail
          go_quiet (fail)
          rw [same_at pa pb HS.out]
          go_wp2_with fail
          go_roundw
          case rel => exact ⟨k + 1, -1, acc, by go_num, rfl, by omega, HST2.out, HOWN.out, below_dn' hbb _⟩
          case measure => simp [intOf]; omega
        · obtain ⟨hst2, hfk, hkn⟩ := stand_shut HST.out HSAME.out
          have HST2 := Lib.hid hst2
          clear hst2
          go_wp2_with fail
          go_quiet (fail)
          rw [same_at pa pb HS.out]
          go_wp2_with fail
          refine (ref_Of9 _ _ f (k - f) _ rfl (by omega) (by omega)).mono ?_
          rintro e w1 ⟨rfl, rfl⟩
          obtain ⟨v', w', hrun, ho, hgr, _⟩ := append_sl spanElem ((wr.drewN nq).alloc (.cells #[spanV (f, k - f)] 57)) w.heap.size 40 u5 acc.length _ ((show (wr.drewN nq).ownsRow _ _ _ _ _ _ from HOWN.out).alloc _) _ 1 [spanV (f, k - f)] (sl_one _ _ _) (fun u hu => by simp at hu; subst hu; rfl) (by unfold maxLen; omega) (by omega) (by have := hbb.size; simp; omega)
          have HO := Lib.hid ho
          have HB' := Lib.hid (((below_dn' hbb nq).alloc (by have := hbb.size; simpa using this) (.cells #[spanV (f, k - f)] 57)).grown hgr (by have := hbb.size; simp; omega) (fun q hq => (own_block_ge HOWN.out q hq).1))
          clear ho hgr
          unfold spanV at hrun
          go_wp2_with (at_builtin; refine wpList_append_run rfl _ _ _ rfl _ _ _ _ rfl rfl hrun ?_)
          go_roundw
          case rel => exact ⟨k + 1, -1, (f, k - f) :: acc, by go_num, rfl, by omega, HST2.out, by rw [List.reverse_cons, List.map_append]; exact HO.out, HB'.out⟩
          case measure => simp [intOf]; omega
      · have HD := Lib.hid hs
        clear hs
        rcases (show z = -1 ∨ ∃ f : Nat, z = f from by rcases HST.out with ⟨h, _⟩ | ⟨f, h, _⟩; exact .inl h; exact .inr ⟨f, h⟩) with rfl | ⟨f, rfl⟩
        · have HST2 := Lib.hid (stand_open HST.out (by omega) HD.out)
          go_wp2_with fail
          go_quiet (fail)
          rw [diff_at pa pb HD.out]
          go_wp2_with fail
          go_roundw
          case rel => exact ⟨k + 1, k, acc, by go_num, rfl, by omega, HST2.out, HOWN.out, below_dn' hbb _⟩
          case measure => simp [intOf]; omega
        · have HST2 := Lib.hid (stand_on HST.out (by omega) HD.out)
          go_wp2_with fail
          go_quiet (fail)
          rw [diff_at pa pb HD.out]
          go_wp2_with fail
          go_roundw
          case rel => exact ⟨k + 1, f, acc, by go_num, rfl, by omega, HST2.out, HOWN.out, below_dn' hbb _⟩
          case measure => simp [intOf]; omega
    · have HD : Hid (a[k]? ≠ b[k]?) := Lib.hid (by rw [List.getElem?_eq_getElem pa, List.getElem?_eq_none pb]; simp)
      have hdb : decide (k < b.length) = false := by simp; omega
      rcases (show z = -1 ∨ ∃ f : Nat, z = f from by rcases HST.out with ⟨h, _⟩ | ⟨f, h, _⟩; exact .inl h; exact .inr ⟨f, h⟩) with rfl | ⟨f, rfl⟩
      · have HST2 := Lib.hid (stand_open HST.out (by omega) HD.out)
        go_wp2_with fail
        go_quiet (fail)
        go_wp2_with fail
        go_roundw
        case rel => exact ⟨k + 1, k, acc, by go_num, rfl, by omega, HST2.out, HOWN.out, below_dn' hbb _⟩
        case measure => simp [intOf]; omega
      · have HST2 := Lib.hid (stand_on HST.out (by omega) HD.out)
        go_wp2_with fail
        go_quiet (fail)
        go_wp2_with fail
        go_roundw
        case rel => exact ⟨k + 1, f, acc, by go_num, rfl, by omega, HST2.out, HOWN.out, below_dn' hbb _⟩
        case measure => simp [intOf]; omega
    · have HD : Hid (a[k]? ≠ b[k]?) := Lib.hid (by rw [List.getElem?_eq_none pa, List.getElem?_eq_getElem pb]; simp)
      have hda : decide (k < a.length) = false := by simp; omega
      have hlb : k < b.length := pb
      rcases (show z = -1 ∨ ∃ f : Nat, z = f from by rcases HST.out with ⟨h, _⟩ | ⟨f, h, _⟩; exact .inl h; exact .inr ⟨f, h⟩) with rfl | ⟨f, rfl⟩
      · have HST2 := Lib.hid (stand_open HST.out (by omega) HD.out)
        go_wp2_with fail
        go_quiet (fail)
        go_wp2_with fail
        go_roundw
        case rel => exact ⟨k + 1, k, acc, by go_num, rfl, by omega, HST2.out, HOWN.out, below_dn' hbb _⟩
        case measure => simp [intOf]; omega
      · have HST2 := Lib.hid (stand_on HST.out (by omega) HD.out)
        go_wp2_with fail
        go_quiet (fail)
        go_wp2_with fail
        go_roundw
        case rel => exact ⟨k + 1, f, acc, by go_num, rfl, by omega, HST2.out, HOWN.out, below_dn' hbb _⟩
        case measure => simp [intOf]; omega
    · have HD : Hid (a[k]? ≠ b[k]?) := Lib.hid (by rw [List.getElem?_eq_none (by omega), List.getElem?_eq_getElem pb]; simp)
      have hda : decide (k < a.length) = false := by simp; omega
      have hlb : k < b.length := pb
      rcases (show z = -1 ∨ ∃ f : Nat, z = f from by rcases HST.out with ⟨h, _⟩ | ⟨f, h, _⟩; exact .inl h; exact .inr ⟨f, h⟩) with rfl | ⟨f, rfl⟩
      · have HST2 := Lib.hid (stand_open HST.out (by omega) HD.out)
        go_wp2_with fail
        go_quiet (fail)
        go_wp2_with fail
        go_roundw
        case rel => exact ⟨k + 1, k, acc, by go_num, rfl, by omega, HST2.out, HOWN.out, below_dn' hbb _⟩
        case measure => simp [intOf]; omega
      · have HST2 := Lib.hid (stand_on HST.out (by omega) HD.out)
        go_wp2_with fail
        go_quiet (fail)
        go_wp2_with fail
        go_roundw
        case rel => exact ⟨k + 1, f, acc, by go_num, rfl, by omega, HST2.out, HOWN.out, below_dn' hbb _⟩
        case measure => simp [intOf]; omega
    · have HSAME : Hid (k < max a.length b.length → a[k]? = b[k]?) := Lib.hid (fun h => absurd h (by omega))
      have hda : decide (k < a.length) = false := by simp; omega
      have hdb : decide (k < b.length) = false := by simp; omega
      rcases (show z = -1 ∨ ∃ f : Nat, z = f from by rcases HST.out with ⟨h, _⟩ | ⟨f, h, _⟩; exact .inl h; exact .inr ⟨f, h⟩) with rfl | ⟨f, rfl⟩
      · have HST2 := Lib.hid (stand_same HST.out HSAME.out)
        go_wp2_with fail
        go_quiet (fail)
        go_wp2_with fail
        go_roundw
        case rel => exact ⟨k + 1, -1, acc, by go_num, rfl, by omega, HST2.out, HOWN.out, below_dn' hbb _⟩
        case measure => simp [intOf]; omega
      · obtain ⟨hst2, hfk, hkn⟩ := stand_shut HST.out HSAME.out
        have HST2 := Lib.hid hst2
        clear hst2
        go_wp2_with fail
        go_quiet (fail)
        go_wp2_with fail
        refine (ref_Of9 _ _ f (k - f) _ rfl (by omega) (by omega)).mono ?_
        rintro e w1 ⟨rfl, rfl⟩
        obtain ⟨v', w', hrun, ho, hgr, _⟩ := append_sl spanElem ((wr.drewN nq).alloc (.cells #[spanV (f, k - f)] 57)) w.heap.size 40 u5 acc.length _ ((show (wr.drewN nq).ownsRow _ _ _ _ _ _ from HOWN.out).alloc _) _ 1 [spanV (f, k - f)] (sl_one _ _ _) (fun u hu => by simp at hu; subst hu; rfl) (by unfold maxLen; omega) (by omega) (by have := hbb.size; simp; omega)
        have HO := Lib.hid ho
        have HB' := Lib.hid (((below_dn' hbb nq).alloc (by have := hbb.size; simpa using this) (.cells #[spanV (f, k - f)] 57)).grown hgr (by have := hbb.size; simp; omega) (fun q hq => (own_block_ge HOWN.out q hq).1))
        clear ho hgr
        unfold spanV at hrun
        go_wp2_with (at_builtin; refine wpList_append_run rfl _ _ _ rfl _ _ _ _ rfl rfl hrun ?_)
        go_roundw
        case rel => exact ⟨k + 1, -1, (f, k - f) :: acc, by go_num, rfl, by omega, HST2.out, by rw [List.reverse_cons, List.map_append]; exact HO.out, HB'.out⟩
        case measure => simp [intOf]; omega
    · have HSAME : Hid (k < max a.length b.length → a[k]? = b[k]?) := Lib.hid (fun h => absurd h (by omega))
      have hda : decide (k < a.length) = false := by simp; omega
      have hdb : decide (k < b.length) = false := by simp; omega
      rcases (show z = -1 ∨ ∃ f : Nat, z = f from by rcases HST.out with ⟨h, _⟩ | ⟨f, h, _⟩; exact .inl h; exact .inr ⟨f, h⟩) with rfl | ⟨f, rfl⟩
      · have HST2 := Lib.hid (stand_same HST.out HSAME.out)
        go_wp2_with fail
        go_quiet (fail)
        go_wp2_with fail
        go_roundw
        case rel => exact ⟨k + 1, -1, acc, by go_num, rfl, by omega, HST2.out, HOWN.out, below_dn' hbb _⟩
        case measure => simp [intOf]; omega
      · obtain ⟨hst2, hfk, hkn⟩ := stand_shut HST.out HSAME.out
        have HST2 := Lib.hid hst2
        clear hst2
        go_wp2_with fail
        go_quiet (fail)
        go_wp2_with fail
        refine (ref_Of9 _ _ f (k - f) _ rfl (by omega) (by omega)).mono ?_
        rintro e w1 ⟨rfl, rfl⟩
        obtain ⟨v', w', hrun, ho, hgr, _⟩ := append_sl spanElem ((wr.drewN nq).alloc (.cells #[spanV (f, k - f)] 57)) w.heap.size 40 u5 acc.length _ ((show (wr.drewN nq).ownsRow _ _ _ _ _ _ from HOWN.out).alloc _) _ 1 [spanV (f, k - f)] (sl_one _ _ _) (fun u hu => by simp at hu; subst hu; rfl) (by unfold maxLen; omega) (by omega) (by have := hbb.size; simp; omega)
        have HO := Lib.hid ho
        have HB' := Lib.hid (((below_dn' hbb nq).alloc (by have := hbb.size; simpa using this) (.cells #[spanV (f, k - f)] 57)).grown hgr (by have := hbb.size; simp; omega) (fun q hq => (own_block_ge HOWN.out q hq).1))
        clear ho hgr
        unfold spanV at hrun
        go_wp2_with (at_builtin; refine wpList_append_run rfl _ _ _ rfl _ _ _ _ rfl rfl hrun ?_)
        go_roundw
        case rel => exact ⟨k + 1, -1, (f, k - f) :: acc, by go_num, rfl, by omega, HST2.out, by rw [List.reverse_cons, List.map_append]; exact HO.out, HB'.out⟩
        case measure => simp [intOf]; omega
    · have hfin := stand_end HST.out (by omega)
      have HF := Lib.hid hfin
      clear hfin
      go_wp2_with fail
      go_ret
      refine ⟨_, rfl, ?_, hbb⟩
      rw [← HF.out, List.length_reverse]
      exact HOWN.out
end Go.Proofs.Ytgmpgmhbfkdalaa
