/- net.Take: it answers as the document says; old memory is as it was. -/
import Derived.Test.YtmpiglciplpfhaaNetOps
set_option linter.unusedVariables false
namespace Go.Proofs.Ytmpiglciplpfhaa
open Go.RowKit Copyhold
attribute [local go_sem] piece

def takeD (n : NetD) (up : Bool) (i : Int) : Option (List UInt8 × NetD) :=
  if 0 ≤ i then (rowN n up)[i.toNat]?.map fun s => (s, setN n up ((rowN n up).eraseIdx i.toNat)) else none

theorem map_erase {α β : Type} (f : α → β) (l : List α) (i : Nat) : (l.map f).eraseIdx i = (l.eraseIdx i).map f := by
  rw [List.eraseIdx_eq_take_drop_succ, List.eraseIdx_eq_take_drop_succ]
  simp

/-- what is answered: a text and a net -/
def RetT (D : Nat → Prop) (w : World) (s : List UInt8) (n : NetD) (ok : Bool) (e : Ending) (w' : World) : Prop := ∃ v, e = .returned (.tuple #[.string ⟨s.toArray⟩, v, .bool ok]) ∧ IsNet (fun b => D b ∨ w.heap.size ≤ b) w' v n ∧ Below w.heap.size w w'

set_option maxHeartbeats 2000000 in
theorem net_Take_no (D : Nat → Prop) (n : NetD) (up : Bool) (i : Int) (v : Value) (w : World) (hn : IsNet D w v n) (hD : ∀ b, D b → b < w.heap.size) (h1 : n.1.length ≤ 8796093022208) (h2 : n.2.length ≤ 8796093022208) (hi1 : -9223372036854775808 ≤ i) (hi2 : i ≤ 9223372036854775807)
    (hno : i < 0 ∨ ((rowN n up).length : Int) ≤ i) :
    Calls Try.prog 8 #[v, .bool up, .int .i64 i] w (RetT D w [] n false) := by
  obtain ⟨A, c, B, d, rfl, hu, hd, hat1, hat2⟩ := hn
  have hb : ∀ W : World, Below w.heap.size w W → RetT D w [] n false (.returned (.tuple #[.string ⟨#[]⟩, .agg #[.slice A n.1.length c, .slice B n.2.length d], .bool false])) W := fun W hW =>
    ⟨_, rfl, IsNet.below (D := D) ⟨A, c, B, d, rfl, hu, hd, hat1, hat2⟩ hW fun _ h => .inl h, hW⟩
  have HB := Lib.hid hb
  have HNO := Lib.hid hno
  clear hu hd hat1 hat2 hD hb hno
  cases up
  · go_enter Try.func8, Try.ntmps8
    go_wp2_with fail
    go_region_with (first | (go_at_call 18; refine (net_row_at false A B n.1.length n.2.length c d _).mono ?_; rintro e w1 ⟨rfl, rfl⟩; simp only [pickV, Bool.false_eq_true, if_false]) | (go_at_call 17; refine (find_no B n.2.length d i _ (by omega) hi1 hi2 HNO.out).mono ?_; rintro e w1 ⟨rfl, rfl⟩))
    all_goals
      go_wp2_with fail
      go_region
      all_goals
        go_wp2_with fail
        refine bodyPost_ret (v := .tuple #[.string ⟨#[]⟩, .agg #[.slice A n.1.length c, .slice B n.2.length d], .bool false]) (by simp [results, Try.results8, go_sem]) rfl (HB.out _ ?_)
        repeat (first | exact Below.refl _ _ | (refine Below.drew ?_) | (refine Below.setCell ?_ (by simp <;> omega) _) | (refine Below.alloc ?_ (by simp <;> omega) _))
  · go_enter Try.func8, Try.ntmps8
    go_wp2_with fail
    go_region_with (first | (go_at_call 18; refine (net_row_at true A B n.1.length n.2.length c d _).mono ?_; rintro e w1 ⟨rfl, rfl⟩; simp only [pickV, if_true]) | (go_at_call 17; refine (find_no A n.1.length c i _ (by omega) hi1 hi2 HNO.out).mono ?_; rintro e w1 ⟨rfl, rfl⟩))
    all_goals
      go_wp2_with fail
      go_region
      all_goals
        go_wp2_with fail
        refine bodyPost_ret (v := .tuple #[.string ⟨#[]⟩, .agg #[.slice A n.1.length c, .slice B n.2.length d], .bool false]) (by simp [results, Try.results8, go_sem]) rfl (HB.out _ ?_)
        repeat (first | exact Below.refl _ _ | (refine Below.drew ?_) | (refine Below.setCell ?_ (by simp <;> omega) _) | (refine Below.alloc ?_ (by simp <;> omega) _))

theorem eg_take : ∀ args w, (callFunc 20 args).run Try.prog w = .ok (.enter 20 args) w := fun _ _ => rfl

set_option maxHeartbeats 4000000 in
theorem net_Take_ok (D : Nat → Prop) (n : NetD) (up : Bool) (i : Nat) (s : List UInt8) (v : Value) (w : World) (hn : IsNet D w v n) (hD : ∀ b, D b → b < w.heap.size) (h1 : n.1.length ≤ 8796093022208) (h2 : n.2.length ≤ 8796093022208)
    (hi : (rowN n up)[i]? = some s) :
    Calls Try.prog 8 #[v, .bool up, .int .i64 i] w (RetT D w s (setN n up ((rowN n up).eraseIdx i)) true) := by
  obtain ⟨A, c, B, d, rfl, hu, hd, hat1, hat2⟩ := hn
  have HU := Lib.hid hu
  have HD := Lib.hid hd
  have HA1 := Lib.hid hat1
  have HA2 := Lib.hid hat2
  have HDD := Lib.hid hD
  have HI := Lib.hid hi
  have hil := (List.getElem?_eq_some_iff.1 hi).1
  clear hu hd hat1 hat2 hD hi
  cases up
  · simp only [rowN, Bool.false_eq_true, if_false] at HI hil ⊢
    have hb0 : Below w.heap.size w (((w.alloc (.cells #[.slice A n.1.length c, .slice B n.2.length d] 24)).alloc (.cells #[.int .i64 i] 3)).alloc (.cells #[.slice none 0 0, .slice none 0 0] 24)) := (((Below.refl _ _).alloc (Nat.le_refl _) _).alloc (by simp) _).alloc (by simp <;> omega) _
    have hbx : ∀ o : Obj, Below w.heap.size w (((((w.alloc (.cells #[.slice A n.1.length c, .slice B n.2.length d] 24)).alloc (.cells #[.int .i64 i] 3)).alloc (.cells #[.slice none 0 0, .slice none 0 0] 24))).alloc o) := fun o => hb0.alloc (by simp <;> omega) o
    have HRX := Lib.hid (fun o : Obj => HD.out.below (hbx o).drew)
    have HBX := Lib.hid hbx
    clear hb0 hbx
    go_enter Try.func8, Try.ntmps8
    go_wp2_with fail
    go_region_with (first | (go_at_call 18; refine (net_row_at false A B n.1.length n.2.length c d _).mono ?_; rintro e w1 ⟨rfl, rfl⟩; simp only [pickV, Bool.false_eq_true, if_false]) | (go_at_call 17; refine (find_ok B n.2.length d n.2 i s _ (HRX.out _) HI.out (by omega)).mono ?_; rintro e w1 ⟨rfl, rfl⟩))
    all_goals
      go_wp2_with fail
      obtain ⟨W1, hW1⟩ : ∃ W1, W1 = ((((w.alloc (.cells #[.slice A n.1.length c, .slice B n.2.length d] 24)).alloc (.cells #[.int .i64 i] 3)).alloc (.cells #[.slice none 0 0, .slice none 0 0] 24)).alloc (.cells #[.slice A n.1.length c, .slice B n.2.length d] 24)).drew := ⟨_, rfl⟩
      have hb1 : Below w.heap.size w W1 := by rw [hW1]; exact (HBX.out _).drew
      have hs1 : W1.heap.size = w.heap.size + 4 := by rw [hW1]; simp
      have hcs : W1.cell? ⟨w.heap.size + 1, 0, none⟩ = some (.int .i64 i) := by rw [hW1]; simp [go_sem]
      have hr0 : W1.cell? ⟨w.heap.size + 2, 0, none⟩ = some (.slice none 0 0) := by rw [hW1]; simp [go_sem]
      have hr1 : W1.cell? ⟨w.heap.size + 2, 1, none⟩ = some (.slice none 0 0) := by rw [hW1]; simp [go_sem]
      have hz0 : W1.frozen? ⟨w.heap.size + 2, 0, none⟩ = false := by rw [hW1]; simp [go_sem]
      have hz1 : W1.frozen? ⟨w.heap.size + 2, 1, none⟩ = false := by rw [hW1]; simp [go_sem]
      rw [← hW1]
      clear hW1
      have HS := Lib.hid hs1
      have hcall := net_turned false A B n.1.length n.2.length c d (n.1.map strV) (n.2.map strV) ((n.2.eraseIdx i).map strV) 20 #[.pointer (some ⟨w.heap.size + 1, 0, none⟩)] W1 eg_take (HU.out.below hb1) (HD.out.below hb1)
        (fun u hu => by rw [← List.map_append] at hu; obtain ⟨l, _, rfl⟩ := List.mem_map.1 hu; rfl) (by rw [List.length_map]; exact h1) (by rw [List.length_map]; exact h2)
        (fun W g hbW hg hh => by
          have hcell : W.cell? ⟨w.heap.size + 1, 0, none⟩ = some (.int .i64 i) := (hbW.cell (p := ⟨w.heap.size + 1, 0, none⟩) (by rw [HS.out]; simp)).trans hcs
          have h := take_turn W g (w.heap.size + 1) (n.2.map strV) i hh (by rw [List.length_map]; omega) (by rw [List.length_map]; omega) (fun u hu => by obtain ⟨l, _, rfl⟩ := List.mem_map.1 hu; rfl) hcell
          rw [map_erase] at h
          exact h)
      refine hcall.mono ?_
      intro e w2 hret
      obtain ⟨v, rfl, hnet, hb2⟩ := turned_net (HU.out.below hb1) (HD.out.below hb1) HA1.out HA2.out hret
      clear hcall hret
      obtain ⟨A', c', B', d', rfl, q1, q2, q3, q4⟩ := id hnet
      obtain ⟨hc2, hf2⟩ := bcell hb2
      rw [HS.out] at hc2 hf2
      have HN := Lib.hid hnet
      have HB2 := Lib.hid hb2
      clear q1 q2 q3 q4 hnet hb2 hs1
      go_wp2_with fail
      refine bodyPost_ret (v := .tuple #[.string ⟨s.toArray⟩, .agg #[.slice A' (setN n false (n.2.eraseIdx i)).1.length c', .slice B' (setN n false (n.2.eraseIdx i)).2.length d'], .bool true]) (by simp [results, Try.results8, go_sem, hc2, hr0, hr1]) rfl ⟨_, rfl, ?_, ?_⟩
      · refine HN.out.frame (fun b hb hl => ?_) (by simp) (fun b hb => ?_)
        · rw [heap_setCell_far _ _ _ _ ?_, heap_setCell_far _ _ _ _ ?_]
          all_goals
            rcases hb with hb | hb
            · have := HDD.out b hb; simp; omega
            · have := HS.out; simp; omega
        · rcases hb with hb | hb
          · exact .inl hb
          · exact .inr (by have := HS.out; omega)
      · exact ((hb1.trans (HB2.out.mono hb1.size)).setCell (by simp <;> omega) _).setCell (by simp <;> omega) _
  · simp only [rowN, if_true] at HI hil ⊢
    have hb0 : Below w.heap.size w (((w.alloc (.cells #[.slice A n.1.length c, .slice B n.2.length d] 24)).alloc (.cells #[.int .i64 i] 3)).alloc (.cells #[.slice none 0 0, .slice none 0 0] 24)) := (((Below.refl _ _).alloc (Nat.le_refl _) _).alloc (by simp) _).alloc (by simp <;> omega) _
    have hbx : ∀ o : Obj, Below w.heap.size w (((((w.alloc (.cells #[.slice A n.1.length c, .slice B n.2.length d] 24)).alloc (.cells #[.int .i64 i] 3)).alloc (.cells #[.slice none 0 0, .slice none 0 0] 24))).alloc o) := fun o => hb0.alloc (by simp <;> omega) o
    have HRX := Lib.hid (fun o : Obj => HU.out.below (hbx o).drew)
    have HBX := Lib.hid hbx
    clear hb0 hbx
    go_enter Try.func8, Try.ntmps8
    go_wp2_with fail
    go_region_with (first | (go_at_call 18; refine (net_row_at true A B n.1.length n.2.length c d _).mono ?_; rintro e w1 ⟨rfl, rfl⟩; simp only [pickV, if_true]) | (go_at_call 17; refine (find_ok A n.1.length c n.1 i s _ (HRX.out _) HI.out (by omega)).mono ?_; rintro e w1 ⟨rfl, rfl⟩))
    all_goals
      go_wp2_with fail
      obtain ⟨W1, hW1⟩ : ∃ W1, W1 = ((((w.alloc (.cells #[.slice A n.1.length c, .slice B n.2.length d] 24)).alloc (.cells #[.int .i64 i] 3)).alloc (.cells #[.slice none 0 0, .slice none 0 0] 24)).alloc (.cells #[.slice A n.1.length c, .slice B n.2.length d] 24)).drew := ⟨_, rfl⟩
      have hb1 : Below w.heap.size w W1 := by rw [hW1]; exact (HBX.out _).drew
      have hs1 : W1.heap.size = w.heap.size + 4 := by rw [hW1]; simp
      have hcs : W1.cell? ⟨w.heap.size + 1, 0, none⟩ = some (.int .i64 i) := by rw [hW1]; simp [go_sem]
      have hr0 : W1.cell? ⟨w.heap.size + 2, 0, none⟩ = some (.slice none 0 0) := by rw [hW1]; simp [go_sem]
      have hr1 : W1.cell? ⟨w.heap.size + 2, 1, none⟩ = some (.slice none 0 0) := by rw [hW1]; simp [go_sem]
      have hz0 : W1.frozen? ⟨w.heap.size + 2, 0, none⟩ = false := by rw [hW1]; simp [go_sem]
      have hz1 : W1.frozen? ⟨w.heap.size + 2, 1, none⟩ = false := by rw [hW1]; simp [go_sem]
      rw [← hW1]
      clear hW1
      have HS := Lib.hid hs1
      have hcall := net_turned true A B n.1.length n.2.length c d (n.1.map strV) (n.2.map strV) ((n.1.eraseIdx i).map strV) 20 #[.pointer (some ⟨w.heap.size + 1, 0, none⟩)] W1 eg_take (HU.out.below hb1) (HD.out.below hb1)
        (fun u hu => by rw [← List.map_append] at hu; obtain ⟨l, _, rfl⟩ := List.mem_map.1 hu; rfl) (by rw [List.length_map]; exact h1) (by rw [List.length_map]; exact h2)
        (fun W g hbW hg hh => by
          have hcell : W.cell? ⟨w.heap.size + 1, 0, none⟩ = some (.int .i64 i) := (hbW.cell (p := ⟨w.heap.size + 1, 0, none⟩) (by rw [HS.out]; simp)).trans hcs
          have h := take_turn W g (w.heap.size + 1) (n.1.map strV) i hh (by rw [List.length_map]; omega) (by rw [List.length_map]; omega) (fun u hu => by obtain ⟨l, _, rfl⟩ := List.mem_map.1 hu; rfl) hcell
          rw [map_erase] at h
          exact h)
      refine hcall.mono ?_
      intro e w2 hret
      obtain ⟨v, rfl, hnet, hb2⟩ := turned_net (HU.out.below hb1) (HD.out.below hb1) HA1.out HA2.out hret
      clear hcall hret
      obtain ⟨A', c', B', d', rfl, q1, q2, q3, q4⟩ := id hnet
      obtain ⟨hc2, hf2⟩ := bcell hb2
      rw [HS.out] at hc2 hf2
      have HN := Lib.hid hnet
      have HB2 := Lib.hid hb2
      clear q1 q2 q3 q4 hnet hb2 hs1
      go_wp2_with fail
      refine bodyPost_ret (v := .tuple #[.string ⟨s.toArray⟩, .agg #[.slice A' (setN n true (n.1.eraseIdx i)).1.length c', .slice B' (setN n true (n.1.eraseIdx i)).2.length d'], .bool true]) (by simp [results, Try.results8, go_sem, hc2, hr0, hr1]) rfl ⟨_, rfl, ?_, ?_⟩
      · refine HN.out.frame (fun b hb hl => ?_) (by simp) (fun b hb => ?_)
        · rw [heap_setCell_far _ _ _ _ ?_, heap_setCell_far _ _ _ _ ?_]
          all_goals
            rcases hb with hb | hb
            · have := HDD.out b hb; simp; omega
            · have := HS.out; simp; omega
        · rcases hb with hb | hb
          · exact .inl hb
          · exact .inr (by have := HS.out; omega)
      · exact ((hb1.trans (HB2.out.mono hb1.size)).setCell (by simp <;> omega) _).setCell (by simp <;> omega) _
end Go.Proofs.Ytmpiglciplpfhaa
