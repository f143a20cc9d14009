/- net.Spoil whole; the statements' 'shown' answers true; old memory is as it was. -/
import Derived.Test.YtmpiglciplpfhaaNetRef
set_option linter.unusedVariables false
namespace Go.Proofs.Ytmpiglciplpfhaa
open Go.RowKit Copyhold

theorem IsNet.trim {D : Nat → Prop} {w : World} {v : Value} {n : NetD} (h : IsNet D w v n) : IsNet (· < w.heap.size) w v n := by
  obtain ⟨A, c, B, d, rfl, hu, hd, _, _⟩ := h
  exact ⟨A, c, B, d, rfl, hu, hd, hu.lies, hd.lies⟩
theorem IsNet.keep {w w' : World} {v : Value} {n : NetD} (h : IsNet (· < w.heap.size) w v n) (hb : Below w.heap.size w w') : IsNet (· < w'.heap.size) w' v n :=
  h.below hb fun b hl => Nat.lt_of_lt_of_le hl hb.size

theorem at_and {D D' : Nat → Prop} {v : Value} (h : At D v) (h' : At D' v) : At (fun b => D b ∧ D' b) v := by
  revert h h'
  unfold At
  split
  · exact fun h1 h2 h0 => ⟨h1 h0, h2 h0⟩
  · exact fun _ _ => trivial
theorem IsNet.trimD {D : Nat → Prop} {w : World} {v : Value} {n : NetD} (h : IsNet D w v n) : IsNet (fun b => D b ∧ b < w.heap.size) w v n := by
  obtain ⟨A, c, B, d, rfl, hu, hd, h1, h2⟩ := h
  exact ⟨A, c, B, d, rfl, hu, hd, at_and h1 hu.lies, at_and h2 hd.lies⟩

def spoilD (n : NetD) (up : Bool) (i a : Int) (y : UInt8) : NetD × Bool :=
  if 0 ≤ i ∧ 0 ≤ a then
    match (rowN n up)[i.toNat]? with
    | some s => if a.toNat < s.length then (setN n up ((rowN n up).set i.toNat (spoilB s a.toNat y)), true) else (n, false)
    | none => (n, false)
  else (n, false)

theorem net_Spoil (D : Nat → Prop) (n : NetD) (up : Bool) (i a : Int) (y : UInt8) (v : Value) (w : World) (hn : IsNet D w v n) (hD : ∀ b, D b → b < w.heap.size) (h1 : n.1.length ≤ 8796093022208) (h2 : n.2.length ≤ 8796093022208)
    (hi1 : -9223372036854775808 ≤ i) (hi2 : i ≤ 9223372036854775807) (ha1 : -9223372036854775808 ≤ a) (ha2 : a ≤ 9223372036854775807) (hs : ∀ l ∈ rowN n up, l.length ≤ 140737488355328) :
    Calls Try.prog 10 #[v, .bool up, .int .i64 i, .int .i64 a, .int .u8 (y.toNat : Int)] w (RetB D w (spoilD n up i a y).1 (spoilD n up i a y).2) := by
  by_cases hr : i < 0 ∨ ((rowN n up).length : Int) ≤ i
  · have he : spoilD n up i a y = (n, false) := by
      unfold spoilD
      split
      · rw [List.getElem?_eq_none (by omega)]
      · rfl
    rw [he]
    exact net_Spoil_no D n up i a _ v w hn h1 h2 hi1 hi2 ha1 ha2 hr
  · obtain ⟨i, rfl⟩ := Int.eq_ofNat_of_zero_le (show 0 ≤ i by omega)
    have hlt : i < (rowN n up).length := by omega
    have hg : (rowN n up)[i]? = some (rowN n up)[i] := List.getElem?_eq_getElem hlt
    have hl := hs _ (List.getElem_mem hlt)
    by_cases hat : a < 0 ∨ ((rowN n up)[i].length : Int) ≤ a
    · have he : spoilD n up i a y = (n, false) := by
        unfold spoilD
        split
        · rw [Int.toNat_natCast, hg]
          simp only
          rw [if_neg (by omega)]
        · rfl
      rw [he]
      exact net_Spoil_out D n up i a y _ v w hn hD h1 h2 hg hl ha1 ha2 hat
    · obtain ⟨a, rfl⟩ := Int.eq_ofNat_of_zero_le (show 0 ≤ a by omega)
      have he : spoilD n up i a y = (setN n up ((rowN n up).set i (spoilB (rowN n up)[i] a y)), true) := by
        unfold spoilD
        rw [if_pos (by omega), Int.toNat_natCast, hg]
        simp only [Int.toNat_natCast]
        rw [if_pos (by omega)]
      rw [he]
      exact net_Spoil_ok D n up i a y _ v w hn hD h1 h2 hg hl (by omega)

set_option maxHeartbeats 2000000 in
theorem law_shown (w : World) : Calls Try.prog 6 #[] w fun e w' => e = .returned (.bool true) ∧ Below w.heap.size w w' := by
  have h0 : IsNet (fun _ => False) w (.agg #[.slice none 0 0, .slice none 0 0]) ([], []) := ⟨none, 0, none, 0, rfl, .inl ⟨none, 0, rfl, rfl⟩, .inl ⟨none, 0, rfl, rfl⟩, trivial, trivial⟩
  have e1 : sendD ([], []) true [97] = ([[97]], []) := rfl
  have e2 : sendD ([[97]], []) true [98] = ([[97], [98]], []) := rfl
  have H0 := Lib.hid h0
  have E1 := Lib.hid e1
  have E2 := Lib.hid e2
  clear h0 e1 e2
  go_enter Try.func6, Try.ntmps6
  go_wp2_with fail
  refine (net_Send _ ([], []) true [97] _ _ H0.out (fun _ h => h.elim) (by simp) (by simp)).mono ?_
  rw [E1.out]
  rintro e w1 ⟨v1, rfl, hn1, hb1⟩
  go_wp2_with fail
  refine (net_Send _ ([[97]], []) true [98] _ _ hn1.trim (fun _ h => h) (by simp) (by simp)).mono ?_
  rw [E2.out]
  rintro e w2 ⟨v2, rfl, hn2, hb2⟩
  have hb2 := below_trans hb1 hb2 hb1.size
  have hn2 := hn2.trim
  clear hn1 hb1
  obtain ⟨A, c, B, d, rfl, q1, q2, q3, q4⟩ := id hn2
  clear q1 q2 q3 q4
  have HN2 := Lib.hid hn2
  have HB2 := Lib.hid hb2
  clear hn2 hb2
  simp only [List.length_cons, List.length_nil, Nat.zero_add, Nat.reduceAdd] at HN2 ⊢
  go_wp2_with fail
  obtain ⟨W, hW⟩ : ∃ W, W = w2.alloc (.cells #[.slice A 2 c, .slice B 0 d] 24) := ⟨_, rfl⟩
  have hbW : Below w2.heap.size w2 W := by rw [hW]; exact (Below.refl _ _).alloc (Nat.le_refl _) _
  have hsW : W.heap.size = w2.heap.size + 1 := by rw [hW]; simp
  have k0 : W.cell? ⟨w2.heap.size, 0, none⟩ = some (.slice A 2 c) := by rw [hW]; exact cell_new _ _ _ 0
  have k1 : W.cell? ⟨w2.heap.size, 1, none⟩ = some (.slice B 0 d) := by rw [hW]; exact cell_new _ _ _ 1
  have f0 : W.frozen? ⟨w2.heap.size, 0, none⟩ = false := by rw [hW]; simp [go_sem]
  have f1 : W.frozen? ⟨w2.heap.size, 1, none⟩ = false := by rw [hW]; simp [go_sem]
  rw [← hW]
  have HSW := Lib.hid hsW
  clear hW
  refine (net_Take_ok (· < w2.heap.size) ([[97], [98]], []) true 1 [98] _ _ (HN2.out.below hbW fun _ h => h) (fun b h => by rw [hsW]; omega) (by simp) (by simp) rfl).mono ?_
  rintro e w3 ⟨v3, rfl, hn3, hb3⟩
  have hn3 : IsNet (fun b => b < w2.heap.size ∨ W.heap.size ≤ b) w3 v3 ([[97]], []) := hn3
  obtain ⟨A3, c3, B3, d3, rfl, q1, q2, q3, q4⟩ := id hn3
  clear q1 q2 q3 q4
  have g0 := cell_keep hb3 k0
  have g1 := cell_keep hb3 k1
  have p0 := (bcell hb3).2 w2.heap.size 0 (by rw [hsW]; omega)
  have p1 := (bcell hb3).2 w2.heap.size 1 (by rw [hsW]; omega)
  rw [f0] at p0
  rw [f1] at p1
  have HN3 := Lib.hid hn3
  have hs3 := hb3.size
  rw [hsW] at hs3
  have HB3 := Lib.hid (below_trans (below_trans HB2.out hbW HB2.out.size) hb3 (by rw [hsW]; have := HB2.out.size; omega))
  clear hn3 hb3 k0 k1 f0 f1 hbW
  simp only [List.length_cons, List.length_nil, Nat.zero_add] at HN3 ⊢
  go_wp2_with fail
  obtain ⟨W5, hW5⟩ : ∃ W5, W5 = (w3.setCell ⟨w2.heap.size, 0, none⟩ (.slice A3 1 c3)).setCell ⟨w2.heap.size, 1, none⟩ (.slice B3 0 d3) := ⟨_, rfl⟩
  have hs5 : W5.heap.size = w3.heap.size := by rw [hW5]; simp
  have hfar : ∀ k, k ≠ w2.heap.size → W5.heap[k]? = w3.heap[k]? := fun k hk => by rw [hW5, heap_setCell_far _ _ _ _ hk, heap_setCell_far _ _ _ _ hk]
  have hn5 : IsNet (fun b => (b < w2.heap.size ∨ W.heap.size ≤ b) ∧ b < w3.heap.size) W5 (.agg #[.slice A3 1 c3, .slice B3 0 d3]) ([[97]], []) := by
    obtain ⟨A', c', B', d', he, r1, r2, r3, r4⟩ := HN3.out
    refine IsNet.frame (D := fun b => (b < w2.heap.size ∨ W.heap.size ≤ b) ∧ b < w3.heap.size) (w := w3) ⟨A', c', B', d', he, r1, r2, ?_, ?_⟩ (fun b hb hl => hfar b (by have := hb.1; rw [hsW] at this; omega)) (by rw [hs5]; exact Nat.le_refl _) (fun _ h => h)
    · have := r1.lies
      revert r3 this
      unfold At
      split
      · exact fun h1 h2 h0 => ⟨h1 h0, h2 h0⟩
      · exact fun _ _ => trivial
    · have := r2.lies
      revert r4 this
      unfold At
      split
      · exact fun h1 h2 h0 => ⟨h1 h0, h2 h0⟩
      · exact fun _ _ => trivial
  have k0 : W5.cell? ⟨w2.heap.size, 0, none⟩ = some (.slice A3 1 c3) := by
    rw [hW5, World.cell?_setCell_other _ _ _ _ (by intro h; simp at h), World.cell?_setCell_same _ _ _ g0]
  have k1 : W5.cell? ⟨w2.heap.size, 1, none⟩ = some (.slice B3 0 d3) := by
    rw [hW5, World.cell?_setCell_same _ _ _ (show _ = some (.slice B 0 d) by rw [World.cell?_setCell_other _ _ _ _ (by intro h; simp at h)]; exact g1)]
  have f0 : W5.frozen? ⟨w2.heap.size, 0, none⟩ = false := by rw [hW5]; simp [go_sem, p0]
  have f1 : W5.frozen? ⟨w2.heap.size, 1, none⟩ = false := by rw [hW5]; simp [go_sem, p1]
  have hb5 : Below w.heap.size w W5 := by rw [hW5]; exact (HB3.out.setCell HB2.out.size _).setCell HB2.out.size _
  rw [← hW5]
  have HB5 := Lib.hid hb5
  clear hW5 hfar hb5 g0 g1 p0 p1
  refine (net_Take_ok _ ([[97]], []) true 0 [97] _ _ hn5 (fun b h => by rw [hs5]; exact h.2) (by simp) (by simp) rfl).mono ?_
  rintro e w6 ⟨v6, rfl, hn6, hb6⟩
  have hn6 : IsNet _ w6 v6 ([], []) := hn6
  obtain ⟨A6, c6, B6, d6, rfl, -, -, -, -⟩ := hn6
  have g0 := cell_keep hb6 k0
  have g1 := cell_keep hb6 k1
  have p0 := (bcell hb6).2 w2.heap.size 0 (by rw [hs5]; omega)
  have p1 := (bcell hb6).2 w2.heap.size 1 (by rw [hs5]; omega)
  rw [f0] at p0
  rw [f1] at p1
  have HB6 := Lib.hid (below_trans HB5.out hb6 (by have := HB5.out.size; omega))
  clear hb6 k0 k1 f0 f1 hn5
  simp only [List.length_nil]
  go_wp2_with fail
  refine (net_Many A6 B6 0 0 c6 d6 _ (by omega) (by omega)).mono ?_
  rintro e w7 ⟨rfl, hb7⟩
  have hb8 : Below w.heap.size w ((w6.setCell ⟨w2.heap.size, 0, none⟩ (.slice A6 0 c6)).setCell ⟨w2.heap.size, 1, none⟩ (.slice B6 0 d6)) := (HB6.out.setCell HB2.out.size _).setCell HB2.out.size _
  have HB8 := Lib.hid (below_trans hb8 hb7 hb8.size)
  clear hb8 hb7
  go_wp2_with fail
  go_ret
  exact ⟨rfl, HB8.out⟩
end Go.Proofs.Ytmpiglciplpfhaa
