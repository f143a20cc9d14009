/- net.Twice: it answers as the document says; old memory is as it was. -/
import Derived.Test.YtmpiglciplpfhaaNetLaw
set_option linter.unusedVariables false
namespace Go.Proofs.Ytmpiglciplpfhaa
open Go.RowKit Copyhold

def twiceD (n : NetD) (up : Bool) (i : Int) : NetD × Bool :=
  if 0 ≤ i then
    match (rowN n up)[i.toNat]? with
    | some s => if (rowN n up).length < 64 then (sendD n up s, true) else (n, false)
    | none => (n, false)
  else (n, false)

set_option maxHeartbeats 2000000 in
theorem net_Twice_no_up (n : NetD) (i : Int) (v : Value) (w : World) (hn : IsNet (· < w.heap.size) w v n) (h1 : n.1.length ≤ 8796093022208) (h2 : n.2.length ≤ 8796093022208) (hi1 : -9223372036854775808 ≤ i) (hi2 : i ≤ 9223372036854775807) (hno : i < 0 ∨ (n.1.length : Int) ≤ i) :
    Calls Try.prog 9 #[v, .bool true, .int .i64 i] w (RetB (· < w.heap.size) w n false) := by
  obtain ⟨A, c, B, d, rfl, hu, hd, hat1, hat2⟩ := hn
  have hb : ∀ W : World, Below w.heap.size w W → RetB (· < w.heap.size) w n false (.returned (.tuple #[.agg #[.slice A n.1.length c, .slice B n.2.length d], .bool false])) W := fun W hW =>
    ⟨_, rfl, IsNet.below (D := (· < w.heap.size)) ⟨A, c, B, d, rfl, hu, hd, hat1, hat2⟩ hW fun _ h => .inl h, hW⟩
  have HB := Lib.hid hb
  have HNO := Lib.hid hno
  clear hu hd hat1 hat2 hb hno
  go_enter Try.func9, Try.ntmps9
  go_wp2_with fail
  refine (net_row_at true A B n.1.length n.2.length c d _).mono ?_
  rintro e w1 ⟨rfl, rfl⟩
  simp only [pickV, if_true]
  go_wp2_with fail
  refine (find_no A n.1.length c i _ (by omega) hi1 hi2 HNO.out).mono ?_
  rintro e w1 ⟨rfl, rfl⟩
  go_wp2_with fail
  refine bodyPost_ret (v := .tuple #[.agg #[.slice A n.1.length c, .slice B n.2.length d], .bool false]) (by simp [results, Try.results9, go_sem]) rfl (HB.out _ ?_)
  repeat (first | exact Below.refl _ _ | (refine Below.setCell ?_ (by simp <;> omega) _) | (refine Below.alloc ?_ (by simp <;> omega) _))

set_option maxHeartbeats 2000000 in
theorem net_Twice_full_up (n : NetD) (i : Nat) (s : List UInt8) (v : Value) (w : World) (hn : IsNet (· < w.heap.size) w v n) (h1 : n.1.length ≤ 8796093022208) (h2 : n.2.length ≤ 8796093022208) (hi : n.1[i]? = some s) (hf : 64 ≤ n.1.length) :
    Calls Try.prog 9 #[v, .bool true, .int .i64 i] w (RetB (· < w.heap.size) w n false) := by
  obtain ⟨A, c, B, d, rfl, hu, hd, hat1, hat2⟩ := hn
  have hb : ∀ W : World, Below w.heap.size w W → RetB (· < w.heap.size) w n false (.returned (.tuple #[.agg #[.slice A n.1.length c, .slice B n.2.length d], .bool false])) W := fun W hW =>
    ⟨_, rfl, IsNet.below (D := (· < w.heap.size)) ⟨A, c, B, d, rfl, hu, hd, hat1, hat2⟩ hW fun _ h => .inl h, hW⟩
  have HB := Lib.hid hb
  have HI := Lib.hid hi
  have hil := (List.getElem?_eq_some_iff.1 hi).1
  have HRX := Lib.hid (fun o1 o2 o3 : Obj => hu.below ((((Below.refl w.heap.size w).alloc (Nat.le_refl _) o1).alloc (by simp <;> omega) o2).alloc (by simp <;> omega) o3))
  clear hu hd hat1 hat2 hb hi
  go_enter Try.func9, Try.ntmps9
  go_wp2_with fail
  refine (net_row_at true A B n.1.length n.2.length c d _).mono ?_
  rintro e w1 ⟨rfl, rfl⟩
  simp only [pickV, if_true]
  go_wp2_with fail
  refine (find_ok A n.1.length c n.1 i s _ (HRX.out _ _ _) HI.out (by omega)).mono ?_
  rintro e w1 ⟨rfl, rfl⟩
  go_wp2_with fail
  refine (net_row_at true A B n.1.length n.2.length c d _).mono ?_
  rintro e w1 ⟨rfl, rfl⟩
  simp only [pickV, if_true]
  go_wp2_with fail
  refine bodyPost_ret (v := .tuple #[.agg #[.slice A n.1.length c, .slice B n.2.length d], .bool false]) (by simp [results, Try.results9, go_sem]) rfl (HB.out _ ?_)
  repeat (first | exact Below.refl _ _ | (refine Below.setCell ?_ (by simp <;> omega) _) | (refine Below.alloc ?_ (by simp <;> omega) _))

set_option maxHeartbeats 2000000 in
theorem net_Twice_ok_up (n : NetD) (i : Nat) (s : List UInt8) (v : Value) (w : World) (hn : IsNet (· < w.heap.size) w v n) (h1 : n.1.length ≤ 8796093022208) (h2 : n.2.length ≤ 8796093022208) (hi : n.1[i]? = some s) (hf : n.1.length < 64) :
    Calls Try.prog 9 #[v, .bool true, .int .i64 i] w (RetB (· < w.heap.size) w (sendD n true s) true) := by
  obtain ⟨A, c, B, d, rfl, hu, hd, hat1, hat2⟩ := id hn
  have HI := Lib.hid hi
  have HN := Lib.hid hn
  have hil := (List.getElem?_eq_some_iff.1 hi).1
  have HRX := Lib.hid (fun o1 o2 o3 : Obj => hu.below ((((Below.refl w.heap.size w).alloc (Nat.le_refl _) o1).alloc (by simp <;> omega) o2).alloc (by simp <;> omega) o3))
  obtain ⟨W1, hW1⟩ : ∃ W1, W1 = (((w.alloc (.cells #[.slice A n.1.length c, .slice B n.2.length d] 24)).alloc (.cells #[.slice none 0 0, .slice none 0 0] 24)).alloc (.cells #[.slice A n.1.length c, .slice B n.2.length d] 24)).alloc (.cells #[.slice A n.1.length c, .slice B n.2.length d] 24) := ⟨_, rfl⟩
  have hb1 : Below w.heap.size w W1 := by rw [hW1]; exact ((((Below.refl _ _).alloc (Nat.le_refl _) _).alloc (by simp) _).alloc (by simp <;> omega) _).alloc (by simp <;> omega) _
  have hs1 : W1.heap.size = w.heap.size + 4 := by rw [hW1]; simp
  have hr0 : W1.cell? ⟨w.heap.size + 1, 0, none⟩ = some (.slice none 0 0) := by rw [hW1]; simp [go_sem]
  have hr1 : W1.cell? ⟨w.heap.size + 1, 1, none⟩ = some (.slice none 0 0) := by rw [hW1]; simp [go_sem]
  have hz0 : W1.frozen? ⟨w.heap.size + 1, 0, none⟩ = false := by rw [hW1]; simp [go_sem]
  have hz1 : W1.frozen? ⟨w.heap.size + 1, 1, none⟩ = false := by rw [hW1]; simp [go_sem]
  have HW := Lib.hid hW1
  have HS := Lib.hid hs1
  have HB1 := Lib.hid hb1
  clear hu hd hat1 hat2 hi hn hW1 hb1 hs1
  go_enter Try.func9, Try.ntmps9
  go_wp2_with fail
  refine (net_row_at true A B n.1.length n.2.length c d _).mono ?_
  rintro e w1 ⟨rfl, rfl⟩
  simp only [pickV, if_true]
  go_wp2_with fail
  refine (find_ok A n.1.length c n.1 i s _ (HRX.out _ _ _) HI.out (by omega)).mono ?_
  rintro e w1 ⟨rfl, rfl⟩
  go_wp2_with fail
  refine (net_row_at true A B n.1.length n.2.length c d _).mono ?_
  rintro e w1 ⟨rfl, rfl⟩
  simp only [pickV, if_true]
  go_wp2_with fail
  rw [← HW.out]
  refine (net_Send (· < w.heap.size) n true s _ _ (HN.out.below HB1.out fun _ h => h) (fun b h => by have := HS.out; omega) h1 h2).mono ?_
  rintro e w2 ⟨v2, rfl, hn2, hb2⟩
  obtain ⟨A', c', B', d', rfl, -, -, -, -⟩ := id hn2
  obtain ⟨hc2, hf2⟩ := bcell hb2
  rw [HS.out] at hc2 hf2
  have HN2 := Lib.hid hn2
  have HB2 := Lib.hid hb2
  clear hn2 hb2
  go_wp2_with fail
  refine bodyPost_ret (v := .tuple #[.agg #[.slice A' (sendD n true s).1.length c', .slice B' (sendD n true s).2.length d'], .bool true]) (by simp [results, Try.results9, go_sem, hc2, hr0, hr1]) rfl ⟨_, rfl, ?_, ?_⟩
  · refine HN2.out.frame (fun b hb hl => ?_) (by simp) (fun b hb => ?_)
    · rw [heap_setCell_far _ _ _ _ ?_, heap_setCell_far _ _ _ _ ?_]
      all_goals
        have := HS.out
        simp
        omega
    · rcases hb with hb | hb
      · exact .inl hb
      · exact .inr (by have := HS.out; omega)
  · exact ((HB1.out.trans (HB2.out.mono HB1.out.size)).setCell (by simp <;> omega) _).setCell (by simp <;> omega) _

set_option maxHeartbeats 2000000 in
theorem net_Twice_no_down (n : NetD) (i : Int) (v : Value) (w : World) (hn : IsNet (· < w.heap.size) w v n) (h1 : n.1.length ≤ 8796093022208) (h2 : n.2.length ≤ 8796093022208) (hi1 : -9223372036854775808 ≤ i) (hi2 : i ≤ 9223372036854775807) (hno : i < 0 ∨ (n.2.length : Int) ≤ i) :
    Calls Try.prog 9 #[v, .bool false, .int .i64 i] w (RetB (· < w.heap.size) w n false) := by
  obtain ⟨A, c, B, d, rfl, hu, hd, hat1, hat2⟩ := hn
  have hb : ∀ W : World, Below w.heap.size w W → RetB (· < w.heap.size) w n false (.returned (.tuple #[.agg #[.slice A n.1.length c, .slice B n.2.length d], .bool false])) W := fun W hW =>
    ⟨_, rfl, IsNet.below (D := (· < w.heap.size)) ⟨A, c, B, d, rfl, hu, hd, hat1, hat2⟩ hW fun _ h => .inl h, hW⟩
  have HB := Lib.hid hb
  have HNO := Lib.hid hno
  clear hu hd hat1 hat2 hb hno
  go_enter Try.func9, Try.ntmps9
  go_wp2_with fail
  refine (net_row_at false A B n.1.length n.2.length c d _).mono ?_
  rintro e w1 ⟨rfl, rfl⟩
  simp only [pickV, Bool.false_eq_true, if_false]
  go_wp2_with fail
  refine (find_no B n.2.length d i _ (by omega) hi1 hi2 HNO.out).mono ?_
  rintro e w1 ⟨rfl, rfl⟩
  go_wp2_with fail
  refine bodyPost_ret (v := .tuple #[.agg #[.slice A n.1.length c, .slice B n.2.length d], .bool false]) (by simp [results, Try.results9, go_sem]) rfl (HB.out _ ?_)
  repeat (first | exact Below.refl _ _ | (refine Below.setCell ?_ (by simp <;> omega) _) | (refine Below.alloc ?_ (by simp <;> omega) _))

set_option maxHeartbeats 2000000 in
theorem net_Twice_full_down (n : NetD) (i : Nat) (s : List UInt8) (v : Value) (w : World) (hn : IsNet (· < w.heap.size) w v n) (h1 : n.1.length ≤ 8796093022208) (h2 : n.2.length ≤ 8796093022208) (hi : n.2[i]? = some s) (hf : 64 ≤ n.2.length) :
    Calls Try.prog 9 #[v, .bool false, .int .i64 i] w (RetB (· < w.heap.size) w n false) := by
  obtain ⟨A, c, B, d, rfl, hu, hd, hat1, hat2⟩ := hn
  have hb : ∀ W : World, Below w.heap.size w W → RetB (· < w.heap.size) w n false (.returned (.tuple #[.agg #[.slice A n.1.length c, .slice B n.2.length d], .bool false])) W := fun W hW =>
    ⟨_, rfl, IsNet.below (D := (· < w.heap.size)) ⟨A, c, B, d, rfl, hu, hd, hat1, hat2⟩ hW fun _ h => .inl h, hW⟩
  have HB := Lib.hid hb
  have HI := Lib.hid hi
  have hil := (List.getElem?_eq_some_iff.1 hi).1
  have HRX := Lib.hid (fun o1 o2 o3 : Obj => hd.below ((((Below.refl w.heap.size w).alloc (Nat.le_refl _) o1).alloc (by simp <;> omega) o2).alloc (by simp <;> omega) o3))
  clear hu hd hat1 hat2 hb hi
  go_enter Try.func9, Try.ntmps9
  go_wp2_with fail
  refine (net_row_at false A B n.1.length n.2.length c d _).mono ?_
  rintro e w1 ⟨rfl, rfl⟩
  simp only [pickV, Bool.false_eq_true, if_false]
  go_wp2_with fail
  refine (find_ok B n.2.length d n.2 i s _ (HRX.out _ _ _) HI.out (by omega)).mono ?_
  rintro e w1 ⟨rfl, rfl⟩
  go_wp2_with fail
  refine (net_row_at false A B n.1.length n.2.length c d _).mono ?_
  rintro e w1 ⟨rfl, rfl⟩
  simp only [pickV, Bool.false_eq_true, if_false]
  go_wp2_with fail
  refine bodyPost_ret (v := .tuple #[.agg #[.slice A n.1.length c, .slice B n.2.length d], .bool false]) (by simp [results, Try.results9, go_sem]) rfl (HB.out _ ?_)
  repeat (first | exact Below.refl _ _ | (refine Below.setCell ?_ (by simp <;> omega) _) | (refine Below.alloc ?_ (by simp <;> omega) _))

set_option maxHeartbeats 2000000 in
theorem net_Twice_ok_down (n : NetD) (i : Nat) (s : List UInt8) (v : Value) (w : World) (hn : IsNet (· < w.heap.size) w v n) (h1 : n.1.length ≤ 8796093022208) (h2 : n.2.length ≤ 8796093022208) (hi : n.2[i]? = some s) (hf : n.2.length < 64) :
    Calls Try.prog 9 #[v, .bool false, .int .i64 i] w (RetB (· < w.heap.size) w (sendD n false s) true) := by
  obtain ⟨A, c, B, d, rfl, hu, hd, hat1, hat2⟩ := id hn
  have HI := Lib.hid hi
  have HN := Lib.hid hn
  have hil := (List.getElem?_eq_some_iff.1 hi).1
  have HRX := Lib.hid (fun o1 o2 o3 : Obj => hd.below ((((Below.refl w.heap.size w).alloc (Nat.le_refl _) o1).alloc (by simp <;> omega) o2).alloc (by simp <;> omega) o3))
  obtain ⟨W1, hW1⟩ : ∃ W1, W1 = (((w.alloc (.cells #[.slice A n.1.length c, .slice B n.2.length d] 24)).alloc (.cells #[.slice none 0 0, .slice none 0 0] 24)).alloc (.cells #[.slice A n.1.length c, .slice B n.2.length d] 24)).alloc (.cells #[.slice A n.1.length c, .slice B n.2.length d] 24) := ⟨_, rfl⟩
  have hb1 : Below w.heap.size w W1 := by rw [hW1]; exact ((((Below.refl _ _).alloc (Nat.le_refl _) _).alloc (by simp) _).alloc (by simp <;> omega) _).alloc (by simp <;> omega) _
  have hs1 : W1.heap.size = w.heap.size + 4 := by rw [hW1]; simp
  have hr0 : W1.cell? ⟨w.heap.size + 1, 0, none⟩ = some (.slice none 0 0) := by rw [hW1]; simp [go_sem]
  have hr1 : W1.cell? ⟨w.heap.size + 1, 1, none⟩ = some (.slice none 0 0) := by rw [hW1]; simp [go_sem]
  have hz0 : W1.frozen? ⟨w.heap.size + 1, 0, none⟩ = false := by rw [hW1]; simp [go_sem]
  have hz1 : W1.frozen? ⟨w.heap.size + 1, 1, none⟩ = false := by rw [hW1]; simp [go_sem]
  have HW := Lib.hid hW1
  have HS := Lib.hid hs1
  have HB1 := Lib.hid hb1
  clear hu hd hat1 hat2 hi hn hW1 hb1 hs1
  go_enter Try.func9, Try.ntmps9
  go_wp2_with fail
  refine (net_row_at false A B n.1.length n.2.length c d _).mono ?_
  rintro e w1 ⟨rfl, rfl⟩
  simp only [pickV, Bool.false_eq_true, if_false]
  go_wp2_with fail
  refine (find_ok B n.2.length d n.2 i s _ (HRX.out _ _ _) HI.out (by omega)).mono ?_
  rintro e w1 ⟨rfl, rfl⟩
  go_wp2_with fail
  refine (net_row_at false A B n.1.length n.2.length c d _).mono ?_
  rintro e w1 ⟨rfl, rfl⟩
  simp only [pickV, Bool.false_eq_true, if_false]
  go_wp2_with fail
  rw [← HW.out]
  refine (net_Send (· < w.heap.size) n false s _ _ (HN.out.below HB1.out fun _ h => h) (fun b h => by have := HS.out; omega) h1 h2).mono ?_
  rintro e w2 ⟨v2, rfl, hn2, hb2⟩
  obtain ⟨A', c', B', d', rfl, -, -, -, -⟩ := id hn2
  obtain ⟨hc2, hf2⟩ := bcell hb2
  rw [HS.out] at hc2 hf2
  have HN2 := Lib.hid hn2
  have HB2 := Lib.hid hb2
  clear hn2 hb2
  go_wp2_with fail
  refine bodyPost_ret (v := .tuple #[.agg #[.slice A' (sendD n false s).1.length c', .slice B' (sendD n false s).2.length d'], .bool true]) (by simp [results, Try.results9, go_sem, hc2, hr0, hr1]) rfl ⟨_, rfl, ?_, ?_⟩
  · refine HN2.out.frame (fun b hb hl => ?_) (by simp) (fun b hb => ?_)
    · rw [heap_setCell_far _ _ _ _ ?_, heap_setCell_far _ _ _ _ ?_]
      all_goals
        have := HS.out
        simp
        omega
    · rcases hb with hb | hb
      · exact .inl hb
      · exact .inr (by have := HS.out; omega)
  · exact ((HB1.out.trans (HB2.out.mono HB1.out.size)).setCell (by simp <;> omega) _).setCell (by simp <;> omega) _

theorem net_Twice (n : NetD) (up : Bool) (i : Int) (v : Value) (w : World) (hn : IsNet (· < w.heap.size) w v n) (h1 : n.1.length ≤ 8796093022208) (h2 : n.2.length ≤ 8796093022208) (hi1 : -9223372036854775808 ≤ i) (hi2 : i ≤ 9223372036854775807) :
    Calls Try.prog 9 #[v, .bool up, .int .i64 i] w (RetB (· < w.heap.size) w (twiceD n up i).1 (twiceD n up i).2) := by
  by_cases hr : i < 0 ∨ ((rowN n up).length : Int) ≤ i
  · have he : twiceD n up i = (n, false) := by
      unfold twiceD
      split
      · rw [List.getElem?_eq_none (by omega)]
      · rfl
    rw [he]
    cases up
    · exact net_Twice_no_down n i v w hn h1 h2 hi1 hi2 hr
    · exact net_Twice_no_up n i v w hn h1 h2 hi1 hi2 hr
  · obtain ⟨i, rfl⟩ := Int.eq_ofNat_of_zero_le (show 0 ≤ i by omega)
    have hlt : i < (rowN n up).length := by omega
    have hg : (rowN n up)[i]? = some (rowN n up)[i] := List.getElem?_eq_getElem hlt
    by_cases hf : (rowN n up).length < 64
    · have he : twiceD n up i = (sendD n up (rowN n up)[i], true) := by
        unfold twiceD
        rw [if_pos (by omega), Int.toNat_natCast, hg]
        simp only
        rw [if_pos hf]
      rw [he]
      cases up
      · exact net_Twice_ok_down n i _ v w hn h1 h2 hg hf
      · exact net_Twice_ok_up n i _ v w hn h1 h2 hg hf
    · have he : twiceD n up i = (n, false) := by
        unfold twiceD
        rw [if_pos (by omega), Int.toNat_natCast, hg]
        simp only
        rw [if_neg hf]
      rw [he]
      cases up
      · exact net_Twice_full_down n i _ v w hn h1 h2 hg (by simp only [rowN, Bool.false_eq_true, if_false] at hf; omega)
      · exact net_Twice_full_up n i _ v w hn h1 h2 hg (by simp only [rowN, if_true] at hf; omega)
end Go.Proofs.Ytmpiglciplpfhaa
