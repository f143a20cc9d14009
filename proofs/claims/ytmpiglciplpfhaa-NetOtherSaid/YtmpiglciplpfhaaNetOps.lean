/- net.find, Send, Take, Twice, Spoil, Many: they answer as the document says; old memory is as it was. -/
import Derived.Test.YtmpiglciplpfhaaNetTurns
set_option linter.unusedVariables false
namespace Go.Proofs.Ytmpiglciplpfhaa
open Go.RowKit Copyhold
attribute [local go_sem] piece

abbrev NetD : Type := List (List UInt8) × List (List UInt8)
def rowN (n : NetD) (up : Bool) : List (List UInt8) := if up then n.1 else n.2
def setN (n : NetD) (up : Bool) (l : List (List UInt8)) : NetD := if up then (l, n.2) else (n.1, l)

/-- a net in memory, its rows in such blocks -/
def IsNet (D : Nat → Prop) (w : World) (v : Value) (n : NetD) : Prop :=
  ∃ A c B d, v = .agg #[.slice A n.1.length c, .slice B n.2.length d] ∧ Row w (.slice A n.1.length c) (n.1.map strV) ∧ Row w (.slice B n.2.length d) (n.2.map strV) ∧ At D (.slice A n.1.length c) ∧ At D (.slice B n.2.length d)

theorem IsNet.frame {D D' : Nat → Prop} {w w' : World} {v : Value} {n : NetD} (h : IsNet D w v n) (hk : ∀ b, D b → b < w.heap.size → w'.heap[b]? = w.heap[b]?) (hs : w.heap.size ≤ w'.heap.size) (hd : ∀ b, D b → D' b) : IsNet D' w' v n := by
  obtain ⟨A, c, B, d, rfl, hu, hd', h1, h2⟩ := h
  exact ⟨A, c, B, d, rfl, hu.frame h1 hk hs, hd'.frame h2 hk hs, h1.mono hd, h2.mono hd⟩
theorem IsNet.below {D D' : Nat → Prop} {w w' : World} {v : Value} {n : NetD} (h : IsNet D w v n) (hb : Below w.heap.size w w') (hd : ∀ b, D b → D' b) : IsNet D' w' v n :=
  h.frame (fun b _ hl => hb.block b hl) hb.size hd

theorem row_len {w : World} {A : Option Addr} {n c : Nat} {l : List (List UInt8)} (h : Row w (.slice A n c) (l.map strV)) : n = l.length := by
  obtain ⟨_, _, h⟩ := h.shape
  simp only [Value.slice.injEq, List.length_map] at h
  exact h.2.1

/-- what a turned net is in memory -/
theorem turned_net {D : Nat → Prop} {w w' : World} {up : Bool} {A B : Option Addr} {c d : Nat} {n : NetD} {out : List (List UInt8)} {e : Ending} (hu : Row w (.slice A n.1.length c) (n.1.map strV)) (hd : Row w (.slice B n.2.length d) (n.2.map strV))
    (h1 : At D (.slice A n.1.length c)) (h2 : At D (.slice B n.2.length d))
    (h : RetNet w up (.slice A n.1.length c) (.slice B n.2.length d) (out.map strV) e w') : ∃ v, e = .returned v ∧ IsNet (fun b => D b ∨ w.heap.size ≤ b) w' v (setN n up out) ∧ Below w.heap.size w w' := by
  obtain ⟨v, rfl, hr, hat, hb⟩ := h
  obtain ⟨A', c', hv⟩ := hr.shape
  rw [List.length_map] at hv
  subst hv
  cases up
  · exact ⟨_, rfl, ⟨A, c, A', c', rfl, hu.below hb, hr, h1.mono fun _ h => .inl h, hat.mono fun _ h => .inr h⟩, hb⟩
  · exact ⟨_, rfl, ⟨A', c', B, d, rfl, hr, hd.below hb, hat.mono fun _ h => .inr h, h2.mono fun _ h => .inl h⟩, hb⟩

theorem find_ok (A : Option Addr) (n c : Nat) (xs : List (List UInt8)) (i : Nat) (s : List UInt8) (w : World) (hr : Row w (.slice A n c) (xs.map strV)) (hi : xs[i]? = some s) (hn : n ≤ 9223372036854775807) :
    Calls Try.prog 17 #[.slice A n c, .int .i64 i] w fun e w' => e = .returned (.tuple #[.string ⟨s.toArray⟩, .bool true]) ∧ w = w' := by
  have hl := row_len hr
  have hix : i < xs.length := (List.getElem?_eq_some_iff.1 hi).1
  have hg : (xs.map strV)[i]? = some (strV s) := by rw [List.getElem?_map, hi]; rfl
  obtain ⟨b, off, rfl, hbk, hlen, hcl⟩ := hr.at i hg
  have hcell : w.cell? ⟨b, off + i, none⟩ = some (.string ⟨s.toArray⟩) := hcl i _ hg
  have hin : i < n := by omega
  clear hcl hr hg hi hl
  go_enter Try.func17, Try.ntmps17
  go_wp2_with fail
  go_ret2
  exact ⟨rfl, rfl⟩

theorem find_no (A : Option Addr) (n c : Nat) (i : Int) (w : World) (hn : n ≤ 9223372036854775807) (h1 : -9223372036854775808 ≤ i) (h2 : i ≤ 9223372036854775807) (h : i < 0 ∨ (n : Int) ≤ i) :
    Calls Try.prog 17 #[.slice A n c, .int .i64 i] w fun e w' => e = .returned (.tuple #[.string ⟨#[]⟩, .bool false]) ∧ w = w' := by
  rcases (show i < 0 ∨ 0 ≤ i ∧ (n : Int) ≤ i from by omega) with h | ⟨h, h'⟩
  all_goals
    go_enter Try.func17, Try.ntmps17
    go_wp2_with fail
    go_ret2
    exact ⟨rfl, rfl⟩

def sendD (n : NetD) (up : Bool) (s : List UInt8) : NetD := if 64 ≤ (rowN n up).length then n else setN n up (rowN n up ++ [s])

theorem eg_send : ∀ args w, (callFunc 23 args).run Try.prog w = .ok (.enter 23 args) w := fun _ _ => rfl

/-- what is answered: a net -/
def RetN (D : Nat → Prop) (w : World) (n : NetD) (e : Ending) (w' : World) : Prop := ∃ v, e = .returned v ∧ IsNet (fun b => D b ∨ w.heap.size ≤ b) w' v n ∧ Below w.heap.size w w'

set_option maxHeartbeats 1000000 in
theorem net_Send (D : Nat → Prop) (n : NetD) (up : Bool) (s : List UInt8) (v : Value) (w : World) (hn : IsNet D w v n) (hD : ∀ b, D b → b < w.heap.size) (h1 : n.1.length ≤ 8796093022208) (h2 : n.2.length ≤ 8796093022208) :
    Calls Try.prog 13 #[v, .bool up, .string ⟨s.toArray⟩] w (RetN D w (sendD n up s)) := by
  obtain ⟨A, c, B, d, rfl, hu, hd, hat1, hat2⟩ := hn
  have HU := Lib.hid hu
  have HD := Lib.hid hd
  have HA1 := Lib.hid hat1
  have HA2 := Lib.hid hat2
  have HDD := Lib.hid hD
  clear hu hd hat1 hat2 hD
  cases up
  · by_cases hf : 64 ≤ n.2.length
    · have hs : sendD n false s = n := if_pos hf
      rw [hs]
      clear hs
      go_enter Try.func13, Try.ntmps13
      go_wp2_with fail
      refine (net_row_at false A B n.1.length n.2.length c d _).mono ?_
      rintro e w1 ⟨rfl, rfl⟩
      simp only [pickV, Bool.false_eq_true, if_false]
      go_wp2_with fail
      have hb : ∀ W : World, Below w.heap.size w W → RetN D w n (.returned (.agg #[.slice A n.1.length c, .slice B n.2.length d])) W := fun W hW =>
        ⟨_, rfl, IsNet.below (D := D) ⟨A, c, B, d, rfl, HU.out, HD.out, HA1.out, HA2.out⟩ hW fun _ h => .inl h, hW⟩
      refine bodyPost_ret (v := .agg #[.slice A n.1.length c, .slice B n.2.length d]) (by simp [results, Try.results13, go_sem]) rfl (hb _ ?_)
      repeat (first | exact Below.refl _ _ | (refine Below.setCell ?_ (by simp <;> omega) _) | (refine Below.alloc ?_ (by simp <;> omega) _))
    · have hs : sendD n false s = setN n false (n.2 ++ [s]) := if_neg hf
      rw [hs]
      clear hs
      obtain ⟨W1, hW1⟩ : ∃ W1, W1 = (((w.alloc (.cells #[.slice A n.1.length c, .slice B n.2.length d] 24)).alloc (.cells #[.string ⟨s.toArray⟩] 9)).alloc (.cells #[.slice none 0 0, .slice none 0 0] 24)).alloc (.cells #[.slice A n.1.length c, .slice B n.2.length d] 24) := ⟨_, rfl⟩
      have hb1 : Below w.heap.size w W1 := by rw [hW1]; exact ((((Below.refl _ _).alloc (Nat.le_refl _) _).alloc (by simp) _).alloc (by simp <;> omega) _).alloc (by simp <;> omega) _
      have hs1 : W1.heap.size = w.heap.size + 4 := by rw [hW1]; simp
      have hcs : W1.cell? ⟨w.heap.size + 1, 0, none⟩ = some (strV s) := by rw [hW1]; simp [go_sem, strV]
      have hr0 : W1.cell? ⟨w.heap.size + 2, 0, none⟩ = some (.slice none 0 0) := by rw [hW1]; simp [go_sem]
      have hr1 : W1.cell? ⟨w.heap.size + 2, 1, none⟩ = some (.slice none 0 0) := by rw [hW1]; simp [go_sem]
      have hz0 : W1.frozen? ⟨w.heap.size + 2, 0, none⟩ = false := by rw [hW1]; simp [go_sem]
      have hz1 : W1.frozen? ⟨w.heap.size + 2, 1, none⟩ = false := by rw [hW1]; simp [go_sem]
      have HW := Lib.hid hW1
      have HS := Lib.hid hs1
      have HC := Lib.hid hcs
      clear hW1 hcs hs1
      go_enter Try.func13, Try.ntmps13
      go_wp2_with fail
      refine (net_row_at false A B n.1.length n.2.length c d _).mono ?_
      rintro e w1 ⟨rfl, rfl⟩
      simp only [pickV, Bool.false_eq_true, if_false]
      go_wp2_with fail
      rw [← HW.out]
      have hcall := net_turned false A B n.1.length n.2.length c d (n.1.map strV) (n.2.map strV) ((n.2 ++ [s]).map strV) 23 #[.pointer (some ⟨w.heap.size + 1, 0, none⟩)] W1 eg_send (HU.out.below hb1) (HD.out.below hb1)
        (fun u hu => by rw [← List.map_append] at hu; obtain ⟨l, _, rfl⟩ := List.mem_map.1 hu; rfl) (by rw [List.length_map]; exact h1) (by rw [List.length_map]; exact h2)
        (fun W g hbW hg hh => by
          have hcell : W.cell? ⟨w.heap.size + 1, 0, none⟩ = some (strV s) := (hbW.cell (p := ⟨w.heap.size + 1, 0, none⟩) (by rw [HS.out]; simp)).trans HC.out
          have hlt : w.heap.size + 1 < W.heap.size := by have := hbW.size; have := HS.out; omega
          have h := send_turn W g (w.heap.size + 1) (n.2.map strV) s hh (by rw [List.length_map]; omega) hcell hlt
          rw [← List.map_singleton (f := strV), ← List.map_append] at h
          exact h)
      refine hcall.mono ?_
      intro e w2 hret
      obtain ⟨v, rfl, hnet, hb2⟩ := turned_net (HU.out.below hb1) (HD.out.below hb1) HA1.out HA2.out hret
      clear hcall hret
      obtain ⟨A', c', B', d', rfl, q1, q2, q3, q4⟩ := id hnet
      obtain ⟨hc2, hf2⟩ := bcell hb2
      rw [HS.out] at hc2 hf2
      have HN := Lib.hid hnet
      have HB2 := Lib.hid hb2
      clear q1 q2 q3 q4 hnet hb2
      go_wp2_with fail
      refine bodyPost_ret (v := .agg #[.slice A' (setN n false (n.2 ++ [s])).1.length c', .slice B' (setN n false (n.2 ++ [s])).2.length d']) (by simp [results, Try.results13, go_sem, hc2, hr0, hr1]) rfl ⟨_, rfl, ?_, ?_⟩
      · refine HN.out.frame (fun b hb hl => ?_) (by simp) (fun b hb => ?_)
        · rw [heap_setCell_far _ _ _ _ ?_, heap_setCell_far _ _ _ _ ?_]
          all_goals
            rcases hb with hb | hb
            · have := HDD.out b hb; simp; omega
            · have := HS.out; simp; omega
        · rcases hb with hb | hb
          · exact .inl hb
          · exact .inr (by have := HS.out; omega)
      · exact ((hb1.trans (HB2.out.mono hb1.size)).setCell (by simp <;> omega) _).setCell (by simp <;> omega) _
  · by_cases hf : 64 ≤ n.1.length
    · have hs : sendD n true s = n := if_pos hf
      rw [hs]
      clear hs
      go_enter Try.func13, Try.ntmps13
      go_wp2_with fail
      refine (net_row_at true A B n.1.length n.2.length c d _).mono ?_
      rintro e w1 ⟨rfl, rfl⟩
      simp only [pickV, if_true]
      go_wp2_with fail
      have hb : ∀ W : World, Below w.heap.size w W → RetN D w n (.returned (.agg #[.slice A n.1.length c, .slice B n.2.length d])) W := fun W hW =>
        ⟨_, rfl, IsNet.below (D := D) ⟨A, c, B, d, rfl, HU.out, HD.out, HA1.out, HA2.out⟩ hW fun _ h => .inl h, hW⟩
      refine bodyPost_ret (v := .agg #[.slice A n.1.length c, .slice B n.2.length d]) (by simp [results, Try.results13, go_sem]) rfl (hb _ ?_)
      repeat (first | exact Below.refl _ _ | (refine Below.setCell ?_ (by simp <;> omega) _) | (refine Below.alloc ?_ (by simp <;> omega) _))
    · have hs : sendD n true s = setN n true (n.1 ++ [s]) := if_neg hf
      rw [hs]
      clear hs
      obtain ⟨W1, hW1⟩ : ∃ W1, W1 = (((w.alloc (.cells #[.slice A n.1.length c, .slice B n.2.length d] 24)).alloc (.cells #[.string ⟨s.toArray⟩] 9)).alloc (.cells #[.slice none 0 0, .slice none 0 0] 24)).alloc (.cells #[.slice A n.1.length c, .slice B n.2.length d] 24) := ⟨_, rfl⟩
      have hb1 : Below w.heap.size w W1 := by rw [hW1]; exact ((((Below.refl _ _).alloc (Nat.le_refl _) _).alloc (by simp) _).alloc (by simp <;> omega) _).alloc (by simp <;> omega) _
      have hs1 : W1.heap.size = w.heap.size + 4 := by rw [hW1]; simp
      have hcs : W1.cell? ⟨w.heap.size + 1, 0, none⟩ = some (strV s) := by rw [hW1]; simp [go_sem, strV]
      have hr0 : W1.cell? ⟨w.heap.size + 2, 0, none⟩ = some (.slice none 0 0) := by rw [hW1]; simp [go_sem]
      have hr1 : W1.cell? ⟨w.heap.size + 2, 1, none⟩ = some (.slice none 0 0) := by rw [hW1]; simp [go_sem]
      have hz0 : W1.frozen? ⟨w.heap.size + 2, 0, none⟩ = false := by rw [hW1]; simp [go_sem]
      have hz1 : W1.frozen? ⟨w.heap.size + 2, 1, none⟩ = false := by rw [hW1]; simp [go_sem]
      have HW := Lib.hid hW1
      have HS := Lib.hid hs1
      have HC := Lib.hid hcs
      clear hW1 hcs hs1
      go_enter Try.func13, Try.ntmps13
      go_wp2_with fail
      refine (net_row_at true A B n.1.length n.2.length c d _).mono ?_
      rintro e w1 ⟨rfl, rfl⟩
      simp only [pickV, if_true]
      go_wp2_with fail
      rw [← HW.out]
      have hcall := net_turned true A B n.1.length n.2.length c d (n.1.map strV) (n.2.map strV) ((n.1 ++ [s]).map strV) 23 #[.pointer (some ⟨w.heap.size + 1, 0, none⟩)] W1 eg_send (HU.out.below hb1) (HD.out.below hb1)
        (fun u hu => by rw [← List.map_append] at hu; obtain ⟨l, _, rfl⟩ := List.mem_map.1 hu; rfl) (by rw [List.length_map]; exact h1) (by rw [List.length_map]; exact h2)
        (fun W g hbW hg hh => by
          have hcell : W.cell? ⟨w.heap.size + 1, 0, none⟩ = some (strV s) := (hbW.cell (p := ⟨w.heap.size + 1, 0, none⟩) (by rw [HS.out]; simp)).trans HC.out
          have hlt : w.heap.size + 1 < W.heap.size := by have := hbW.size; have := HS.out; omega
          have h := send_turn W g (w.heap.size + 1) (n.1.map strV) s hh (by rw [List.length_map]; omega) hcell hlt
          rw [← List.map_singleton (f := strV), ← List.map_append] at h
          exact h)
      refine hcall.mono ?_
      intro e w2 hret
      obtain ⟨v, rfl, hnet, hb2⟩ := turned_net (HU.out.below hb1) (HD.out.below hb1) HA1.out HA2.out hret
      clear hcall hret
      obtain ⟨A', c', B', d', rfl, q1, q2, q3, q4⟩ := id hnet
      obtain ⟨hc2, hf2⟩ := bcell hb2
      rw [HS.out] at hc2 hf2
      have HN := Lib.hid hnet
      have HB2 := Lib.hid hb2
      clear q1 q2 q3 q4 hnet hb2
      go_wp2_with fail
      refine bodyPost_ret (v := .agg #[.slice A' (setN n true (n.1 ++ [s])).1.length c', .slice B' (setN n true (n.1 ++ [s])).2.length d']) (by simp [results, Try.results13, go_sem, hc2, hr0, hr1]) rfl ⟨_, rfl, ?_, ?_⟩
      · refine HN.out.frame (fun b hb hl => ?_) (by simp) (fun b hb => ?_)
        · rw [heap_setCell_far _ _ _ _ ?_, heap_setCell_far _ _ _ _ ?_]
          all_goals
            rcases hb with hb | hb
            · have := HDD.out b hb; simp; omega
            · have := HS.out; simp; omega
        · rcases hb with hb | hb
          · exact .inl hb
          · exact .inr (by have := HS.out; omega)
      · exact ((hb1.trans (HB2.out.mono hb1.size)).setCell (by simp <;> omega) _).setCell (by simp <;> omega) _
end Go.Proofs.Ytmpiglciplpfhaa
