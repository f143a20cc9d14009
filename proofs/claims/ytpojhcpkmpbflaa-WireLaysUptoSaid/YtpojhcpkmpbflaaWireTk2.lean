/- wire.begin, wire.TakeCall: they answer as the document says; old memory is as it was. -/
import Derived.Test.YtpojhcpkmpbflaaWireTk
import Derived.Test.YtpojhcpkmpbflaaSet8
set_option linter.unusedVariables false
set_option linter.unusedSimpArgs false
namespace Go.Proofs.Ytpojhcpkmpbflaa
open Go.RowKit Copyhold

set_option maxHeartbeats 2000000 in
theorem wire_begin (l : List UInt8) (w : World) :
    Calls Try.prog 38 #[.string ⟨l.toArray⟩] w fun e w' => e = .returned (.agg #[.string ⟨l.toArray⟩, .int .i64 0]) ∧ Below w.heap.size w w' := by
  go_enter Try.func38, Try.ntmps38
  go_wp2_with fail
  refine bodyPost_ret (v := .agg #[.string ⟨l.toArray⟩, .int .i64 0]) (by simp [results, Try.results38, go_sem]) rfl ⟨rfl, ?_⟩
  repeat (first | exact (Below.refl _ _).alloc (Nat.le_refl _) _ | (refine Below.setCell ?_ (by simp <;> omega) _))

theorem takeCall_st (l : List UInt8) : takeCall l = if (callSt l 0).2.2 = 0 then callSt l 0 else (call0, [], (callSt l 0).2.2) := rfl

set_option maxRecDepth 100000 in
set_option maxHeartbeats 16000000 in
theorem wire_TakeCall (l : List UInt8) (w : World) (hl : l.length ≤ 140737488355328) :
    Calls Try.prog 21 #[.string ⟨l.toArray⟩] w fun e w' => e = .returned (.tuple #[callV (takeCall l).1, .string ⟨(takeCall l).2.1.toArray⟩, .int .i64 (takeCall l).2.2]) ∧ Below w.heap.size w w' := by
  have HT := Lib.hid (fun B T cs W h h0 h1 => taking_call l 0 B T cs W h h0 h1 hl)
  have hst := takeCall_st l
  generalize takeCall l = q at *
  generalize callSt l 0 = x at *
  obtain ⟨c, s, er⟩ := x
  simp only at HT hst
  obtain ⟨k1, k2, k3, k4, k5, t1, t2, t3⟩ := c
  obtain ⟨W0, hW0⟩ : ∃ W0, W0 = w.alloc (.cells #[.int .i64 0, .int .i64 0, .int .i64 0, .int .i64 0, .int .i64 0, .string ⟨#[]⟩, .string ⟨#[]⟩, .string ⟨#[]⟩] 23) := ⟨_, rfl⟩
  have tr0 : TBox W0 w.heap.size 23 #[.int .i64 0, .int .i64 0, .int .i64 0, .int .i64 0, .int .i64 0, .string ⟨#[]⟩, .string ⟨#[]⟩, .string ⟨#[]⟩] := by rw [hW0]; exact TBox.new _ _ _
  have hb0 : Below w.heap.size w W0 := by rw [hW0]; exact (Below.refl _ _).alloc (Nat.le_refl _) _
  have HQ := Lib.hid hst
  have HX0 := Lib.hid (And.intro hb0 tr0)
  have HW := Lib.hid hW0
  clear hst hW0 tr0 hb0
  go_enter Try.func21, Try.ntmps21
  go_wp2_with fail
  rw [← HW.out]
  refine (wire_begin l W0).mono ?_
  rintro e w1 ⟨rfl, hb1⟩
  obtain ⟨W1, hW1⟩ : ∃ W1, W1 = w1.alloc (.cells #[.string ⟨l.toArray⟩, .int .i64 0] 73) := ⟨_, rfl⟩
  have b1 : Below w1.heap.size w1 W1 := by rw [hW1]; exact (Below.refl _ _).alloc (Nat.le_refl _) _
  have hlt1 : w.heap.size < w1.heap.size := Nat.lt_of_lt_of_le HX0.out.2.lt hb1.size
  have HX1 := Lib.hid (show Below w.heap.size w W1 ∧ TBox W1 w.heap.size 23 #[.int .i64 0, .int .i64 0, .int .i64 0, .int .i64 0, .int .i64 0, .string ⟨#[]⟩, .string ⟨#[]⟩, .string ⟨#[]⟩] ∧ TBox W1 w1.heap.size 73 #[.string ⟨l.toArray⟩, .int .i64 0] from
    ⟨below_trans (below_trans HX0.out.1 hb1 HX0.out.1.size) b1 (Nat.le_of_lt hlt1), (HX0.out.2.below hb1).below b1, by rw [hW1]; exact TBox.new _ _ _⟩)
  have HW1 := Lib.hid hW1
  clear hb1 b1 hW1
  go_wp2_with fail
  rw [← HW1.out]
  refine (HT.out w1.heap.size 73 _ W1 HX1.out.2.2 rfl rfl).mono ?_
  rintro e w2 ⟨rfl, hr⟩
  have hbw : Below w.heap.size w w2 := hr.2.2.2 _ _ HX1.out.1 (Nat.le_of_lt hlt1) HX1.out.1.size
  have tr2 := hr.far HX1.out.2.1 (by omega)
  have tx2 : TBox w2 w1.heap.size 73 #[.string ⟨s.toArray⟩, .int .i64 er] := hr.1 _ _ HX1.out.2.2
  unfold callV
  simp only
  obtain ⟨W3, hW3⟩ : ∃ W3, W3 = w2.alloc (.cells #[.int .i64 k1, .int .i64 k2, .int .i64 k3, .int .i64 k4, .int .i64 k5, .string ⟨t1.toArray⟩, .string ⟨t2.toArray⟩, .string ⟨t3.toArray⟩] 23) := ⟨_, rfl⟩
  have b3 : Below w2.heap.size w2 W3 := by rw [hW3]; exact (Below.refl _ _).alloc (Nat.le_refl _) _
  have tc3 : TBox W3 w2.heap.size 23 #[.int .i64 k1, .int .i64 k2, .int .i64 k3, .int .i64 k4, .int .i64 k5, .string ⟨t1.toArray⟩, .string ⟨t2.toArray⟩, .string ⟨t3.toArray⟩] := by rw [hW3]; exact TBox.new _ _ _
  have tr3 := tr2.below b3
  have tx3 := tx2.below b3
  have hlt2 := tx2.lt
  have HB3 := Lib.hid (below_trans hbw b3 hbw.size)
  have HW3 := Lib.hid hW3
  have x0 : W3.cell? ⟨w1.heap.size, 0, none⟩ = some (.string ⟨s.toArray⟩) := tx3.cell 0
  have x1 : W3.cell? ⟨w1.heap.size, 1, none⟩ = some (.int .i64 er) := tx3.cell 1
  have y1 : w2.cell? ⟨w1.heap.size, 1, none⟩ = some (.int .i64 er) := tx2.cell 1
  have r0 : W3.cell? ⟨w.heap.size, 0, none⟩ = some (.int .i64 0) := tr3.cell 0
  have g0 := tr3.free 0
  have c0 : W3.cell? ⟨w2.heap.size, 0, none⟩ = some (.int .i64 k1) := tc3.cell 0
  have r1 : W3.cell? ⟨w.heap.size, 1, none⟩ = some (.int .i64 0) := tr3.cell 1
  have g1 := tr3.free 1
  have c1 : W3.cell? ⟨w2.heap.size, 1, none⟩ = some (.int .i64 k2) := tc3.cell 1
  have r2 : W3.cell? ⟨w.heap.size, 2, none⟩ = some (.int .i64 0) := tr3.cell 2
  have g2 := tr3.free 2
  have c2 : W3.cell? ⟨w2.heap.size, 2, none⟩ = some (.int .i64 k3) := tc3.cell 2
  have r3 : W3.cell? ⟨w.heap.size, 3, none⟩ = some (.int .i64 0) := tr3.cell 3
  have g3 := tr3.free 3
  have c3 : W3.cell? ⟨w2.heap.size, 3, none⟩ = some (.int .i64 k4) := tc3.cell 3
  have r4 : W3.cell? ⟨w.heap.size, 4, none⟩ = some (.int .i64 0) := tr3.cell 4
  have g4 := tr3.free 4
  have c4 : W3.cell? ⟨w2.heap.size, 4, none⟩ = some (.int .i64 k5) := tc3.cell 4
  have r5 : W3.cell? ⟨w.heap.size, 5, none⟩ = some (.string ⟨#[]⟩) := tr3.cell 5
  have g5 := tr3.free 5
  have c5 : W3.cell? ⟨w2.heap.size, 5, none⟩ = some (.string ⟨t1.toArray⟩) := tc3.cell 5
  have r6 : W3.cell? ⟨w.heap.size, 6, none⟩ = some (.string ⟨#[]⟩) := tr3.cell 6
  have g6 := tr3.free 6
  have c6 : W3.cell? ⟨w2.heap.size, 6, none⟩ = some (.string ⟨t2.toArray⟩) := tc3.cell 6
  have r7 : W3.cell? ⟨w.heap.size, 7, none⟩ = some (.string ⟨#[]⟩) := tr3.cell 7
  have g7 := tr3.free 7
  have c7 : W3.cell? ⟨w2.heap.size, 7, none⟩ = some (.string ⟨t3.toArray⟩) := tc3.cell 7
  have ne1 : w.heap.size ≠ w2.heap.size := by omega
  have ne2 : w.heap.size ≠ w1.heap.size := by omega
  have HTB := Lib.hid (And.intro tx3 tc3)
  have HTR := Lib.hid tr3
  clear hr hbw b3 hW3 tr2 tx2 tc3 tr3 tx3 c0 c1 c2 c3 c4 c5 c6 c7 x0
  by_cases he : er = 0
  · subst he
    have HQ2 := Lib.hid (show q = (⟨k1, k2, k3, k4, k5, t1, t2, t3⟩, s, 0) from by rw [HQ.out, if_pos rfl])
    clear HQ
    go_wp2_with fail
    rw [← HW3.out]
    refine wp_region_held_drew (S := fun U => TBox U w1.heap.size 73 #[.string ⟨s.toArray⟩, .int .i64 (0)] ∧ TBox U w2.heap.size 23 #[.int .i64 k1, .int .i64 k2, .int .i64 k3, .int .i64 k4, .int .i64 k5, .string ⟨t1.toArray⟩, .string ⟨t2.toArray⟩, .string ⟨t3.toArray⟩]) (by kernel_rfl) (HTB.out) (fun hHeld => ?_)
    refine wpAnyH_take (i := 0) (v := ?_) rfl (by kernel_rfl) (by kernel_rfl) (by kernel_rfl) (fun _ _ _ h => h) (Or.inl ⟨by rfl, ?_⟩) (by assumption) ?_
    rotate_left
    · intro X hSw
      have hc0 : X.cell? ⟨w2.heap.size, 0, none⟩ = some (.int .i64 k1) := hSw.2.cell 0
      have hc1 : X.cell? ⟨w2.heap.size, 1, none⟩ = some (.int .i64 k2) := hSw.2.cell 1
      have hc2 : X.cell? ⟨w2.heap.size, 2, none⟩ = some (.int .i64 k3) := hSw.2.cell 2
      have hc3 : X.cell? ⟨w2.heap.size, 3, none⟩ = some (.int .i64 k4) := hSw.2.cell 3
      have hc4 : X.cell? ⟨w2.heap.size, 4, none⟩ = some (.int .i64 k5) := hSw.2.cell 4
      have hc5 : X.cell? ⟨w2.heap.size, 5, none⟩ = some (.string ⟨t1.toArray⟩) := hSw.2.cell 5
      have hc6 : X.cell? ⟨w2.heap.size, 6, none⟩ = some (.string ⟨t2.toArray⟩) := hSw.2.cell 6
      have hc7 : X.cell? ⟨w2.heap.size, 7, none⟩ = some (.string ⟨t3.toArray⟩) := hSw.2.cell 7
      go_simp
      try with_reducible rfl
    rotate_left
    try simp only [Act.put, List.setIfInBounds_toArray, List.set_cons_zero, List.set_cons_succ, List.getElem_toArray, List.getElem_cons_zero, List.getElem_cons_succ]
    refine wpAnyH_ready (rs := [1, 4]) (by kernel_rfl) (by simp) ?_
    refine (AllReadyH.cons rfl (fun K hK => ?_) (AllReadyH.cons rfl (fun K hK => ?_) AllReadyH.nil))
    · rw [if_pos (by rfl)]
      go_wp2_with fail
      refine hK.out _ _ hHeld (fun _ => ?_)
      clear hK K
      try simp only [Act.put, List.setIfInBounds_toArray, List.set_cons_zero, List.set_cons_succ, List.getElem_toArray, List.getElem_cons_zero, List.getElem_cons_succ]
      refine wpAnyH_ready (rs := [2, 4]) (by kernel_rfl) (by simp) ?_
      refine (AllReadyH.cons rfl (fun K hK => ?_) (AllReadyH.cons rfl (fun K hK => ?_) AllReadyH.nil))
      · rw [if_pos (by rfl)]
        go_wp2_with fail
        refine hK.out _ _ hHeld (fun _ => ?_)
        clear hK K
        try simp only [Act.put, List.setIfInBounds_toArray, List.set_cons_zero, List.set_cons_succ, List.getElem_toArray, List.getElem_cons_zero, List.getElem_cons_succ]
        refine wpAnyH_ready (rs := [3, 4]) (by kernel_rfl) (by simp) ?_
        refine (AllReadyH.cons rfl (fun K hK => ?_) (AllReadyH.cons rfl (fun K hK => ?_) AllReadyH.nil))
        · rw [if_pos (by rfl)]
          have hx0 : W3.drew.cell? ⟨w1.heap.size, 0, none⟩ = some (.string ⟨s.toArray⟩) := hHeld.1.cell 0
          go_wp2_with fail
          refine hK.out _ _ hHeld (fun _ => ?_)
          clear hK K
          try simp only [Act.put, List.setIfInBounds_toArray, List.set_cons_zero, List.set_cons_succ, List.getElem_toArray, List.getElem_cons_zero, List.getElem_cons_succ]
          refine wpAnyH_ready (rs := [4]) (by kernel_rfl) (by simp) ?_
          refine (AllReadyH.cons rfl (fun K hK => ?_) AllReadyH.nil)
          rw [if_pos (by rfl)]
          go_wp2_with fail
          obtain ⟨V9, hV⟩ : ∃ V, V = ((((((((W3.setCell ⟨w.heap.size, 0, none⟩ (.int .i64 k1)).setCell ⟨w.heap.size, 1, none⟩ (.int .i64 k2)).setCell ⟨w.heap.size, 2, none⟩ (.int .i64 k3)).setCell ⟨w.heap.size, 3, none⟩ (.int .i64 k4)).setCell ⟨w.heap.size, 4, none⟩ (.int .i64 k5)).setCell ⟨w.heap.size, 5, none⟩ (.string ⟨t1.toArray⟩)).setCell ⟨w.heap.size, 6, none⟩ (.string ⟨t2.toArray⟩)).setCell ⟨w.heap.size, 7, none⟩ (.string ⟨t3.toArray⟩)).drew := ⟨_, rfl⟩
          rw [← hV]
          replace hV : V9 = (set8 W3 w.heap.size (.int .i64 k1) (.int .i64 k2) (.int .i64 k3) (.int .i64 k4) (.int .i64 k5) (.string ⟨t1.toArray⟩) (.string ⟨t2.toArray⟩) (.string ⟨t3.toArray⟩)).drew := hV
          have tz : TBox V9 w.heap.size 23 #[.int .i64 k1, .int .i64 k2, .int .i64 k3, .int .i64 k4, .int .i64 k5, .string ⟨t1.toArray⟩, .string ⟨t2.toArray⟩, .string ⟨t3.toArray⟩] := by rw [hV]; exact TBox_drew (set8_box HTR.out (.int .i64 k1) (.int .i64 k2) (.int .i64 k3) (.int .i64 k4) (.int .i64 k5) (.string ⟨t1.toArray⟩) (.string ⟨t2.toArray⟩) (.string ⟨t3.toArray⟩))
          have hz : Below w.heap.size w V9 := by rw [hV]; exact (set8_below HB3.out (Nat.le_refl _) (.int .i64 k1) (.int .i64 k2) (.int .i64 k3) (.int .i64 k4) (.int .i64 k5) (.string ⟨t1.toArray⟩) (.string ⟨t2.toArray⟩) (.string ⟨t3.toArray⟩)).drew
          have hs9 : (fun U => TBox U w1.heap.size 73 #[.string ⟨s.toArray⟩, .int .i64 (0)] ∧ TBox U w2.heap.size 23 #[.int .i64 k1, .int .i64 k2, .int .i64 k3, .int .i64 k4, .int .i64 k5, .string ⟨t1.toArray⟩, .string ⟨t2.toArray⟩, .string ⟨t3.toArray⟩]) V9 := by
            rw [hV]
            exact ⟨TBox_drew (set8_far HTB.out.1 _ (by omega) (.int .i64 k1) (.int .i64 k2) (.int .i64 k3) (.int .i64 k4) (.int .i64 k5) (.string ⟨t1.toArray⟩) (.string ⟨t2.toArray⟩) (.string ⟨t3.toArray⟩)), TBox_drew (set8_far HTB.out.2 _ (by omega) (.int .i64 k1) (.int .i64 k2) (.int .i64 k3) (.int .i64 k4) (.int .i64 k5) (.string ⟨t1.toArray⟩) (.string ⟨t2.toArray⟩) (.string ⟨t3.toArray⟩))⟩
          clear hV r0 g0 r1 g1 r2 g2 r3 g3 r4 g4 r5 g5 r6 g6 r7 g7
          refine hK.out _ _ hs9 (fun _ => ?_)
          clear hK K
          try simp only [Act.put, List.setIfInBounds_toArray, List.set_cons_zero, List.set_cons_succ, List.getElem_toArray, List.getElem_cons_zero, List.getElem_cons_succ]
          refine wpAnyH_take (i := 5) (v := ?_) rfl (by kernel_rfl) (by kernel_rfl) (by kernel_rfl) (fun _ _ _ h => h) (Or.inl ⟨by rfl, ?_⟩) (by assumption) ?_
          rotate_left
          · intro X hSw
            go_simp
            try with_reducible rfl
          rotate_left
          try simp only [Act.put, List.setIfInBounds_toArray, List.set_cons_zero, List.set_cons_succ, List.getElem_toArray, List.getElem_cons_zero, List.getElem_cons_succ]
          refine wpAnyH_take (i := 6) (v := ?_) rfl (by kernel_rfl) (by kernel_rfl) (by kernel_rfl) (fun _ _ _ h => h) (Or.inl ⟨by rfl, ?_⟩) (by assumption) ?_
          rotate_left
          · intro X hSw
            go_simp
            try with_reducible rfl
          rotate_left
          try simp only [Act.put, List.setIfInBounds_toArray, List.set_cons_zero, List.set_cons_succ, List.getElem_toArray, List.getElem_cons_zero, List.getElem_cons_succ]
          refine wpAnyH_done (by kernel_rfl) ?_ _
          have q0 : V9.cell? ⟨w.heap.size, 0, none⟩ = some (.int .i64 k1) := tz.cell 0
          have q1 : V9.cell? ⟨w.heap.size, 1, none⟩ = some (.int .i64 k2) := tz.cell 1
          have q2 : V9.cell? ⟨w.heap.size, 2, none⟩ = some (.int .i64 k3) := tz.cell 2
          have q3 : V9.cell? ⟨w.heap.size, 3, none⟩ = some (.int .i64 k4) := tz.cell 3
          have q4 : V9.cell? ⟨w.heap.size, 4, none⟩ = some (.int .i64 k5) := tz.cell 4
          have q5 : V9.cell? ⟨w.heap.size, 5, none⟩ = some (.string ⟨t1.toArray⟩) := tz.cell 5
          have q6 : V9.cell? ⟨w.heap.size, 6, none⟩ = some (.string ⟨t2.toArray⟩) := tz.cell 6
          have q7 : V9.cell? ⟨w.heap.size, 7, none⟩ = some (.string ⟨t3.toArray⟩) := tz.cell 7
          go_wp2_with fail
          refine bodyPost_ret (v := .tuple #[.agg #[.int .i64 k1, .int .i64 k2, .int .i64 k3, .int .i64 k4, .int .i64 k5, .string ⟨t1.toArray⟩, .string ⟨t2.toArray⟩, .string ⟨t3.toArray⟩], .string ⟨s.toArray⟩, .int .i64 0]) (by simp [results, Try.results21, go_sem, q0, q1, q2, q3, q4, q5, q6, q7]) rfl ⟨by rw [HQ2.out]; rfl, hz⟩
        · rw [if_pos (by rfl)]
          go_wp2_with fail
          obtain ⟨V9, hV⟩ : ∃ V, V = ((((((((W3.setCell ⟨w.heap.size, 0, none⟩ (.int .i64 k1)).setCell ⟨w.heap.size, 1, none⟩ (.int .i64 k2)).setCell ⟨w.heap.size, 2, none⟩ (.int .i64 k3)).setCell ⟨w.heap.size, 3, none⟩ (.int .i64 k4)).setCell ⟨w.heap.size, 4, none⟩ (.int .i64 k5)).setCell ⟨w.heap.size, 5, none⟩ (.string ⟨t1.toArray⟩)).setCell ⟨w.heap.size, 6, none⟩ (.string ⟨t2.toArray⟩)).setCell ⟨w.heap.size, 7, none⟩ (.string ⟨t3.toArray⟩)).drew := ⟨_, rfl⟩
          rw [← hV]
          replace hV : V9 = (set8 W3 w.heap.size (.int .i64 k1) (.int .i64 k2) (.int .i64 k3) (.int .i64 k4) (.int .i64 k5) (.string ⟨t1.toArray⟩) (.string ⟨t2.toArray⟩) (.string ⟨t3.toArray⟩)).drew := hV
          have tz : TBox V9 w.heap.size 23 #[.int .i64 k1, .int .i64 k2, .int .i64 k3, .int .i64 k4, .int .i64 k5, .string ⟨t1.toArray⟩, .string ⟨t2.toArray⟩, .string ⟨t3.toArray⟩] := by rw [hV]; exact TBox_drew (set8_box HTR.out (.int .i64 k1) (.int .i64 k2) (.int .i64 k3) (.int .i64 k4) (.int .i64 k5) (.string ⟨t1.toArray⟩) (.string ⟨t2.toArray⟩) (.string ⟨t3.toArray⟩))
          have hz : Below w.heap.size w V9 := by rw [hV]; exact (set8_below HB3.out (Nat.le_refl _) (.int .i64 k1) (.int .i64 k2) (.int .i64 k3) (.int .i64 k4) (.int .i64 k5) (.string ⟨t1.toArray⟩) (.string ⟨t2.toArray⟩) (.string ⟨t3.toArray⟩)).drew
          have hs9 : (fun U => TBox U w1.heap.size 73 #[.string ⟨s.toArray⟩, .int .i64 (0)] ∧ TBox U w2.heap.size 23 #[.int .i64 k1, .int .i64 k2, .int .i64 k3, .int .i64 k4, .int .i64 k5, .string ⟨t1.toArray⟩, .string ⟨t2.toArray⟩, .string ⟨t3.toArray⟩]) V9 := by
            rw [hV]
            exact ⟨TBox_drew (set8_far HTB.out.1 _ (by omega) (.int .i64 k1) (.int .i64 k2) (.int .i64 k3) (.int .i64 k4) (.int .i64 k5) (.string ⟨t1.toArray⟩) (.string ⟨t2.toArray⟩) (.string ⟨t3.toArray⟩)), TBox_drew (set8_far HTB.out.2 _ (by omega) (.int .i64 k1) (.int .i64 k2) (.int .i64 k3) (.int .i64 k4) (.int .i64 k5) (.string ⟨t1.toArray⟩) (.string ⟨t2.toArray⟩) (.string ⟨t3.toArray⟩))⟩
          clear hV r0 g0 r1 g1 r2 g2 r3 g3 r4 g4 r5 g5 r6 g6 r7 g7
          refine hK.out _ _ hs9 (fun _ => ?_)
          clear hK K
          try simp only [Act.put, List.setIfInBounds_toArray, List.set_cons_zero, List.set_cons_succ, List.getElem_toArray, List.getElem_cons_zero, List.getElem_cons_succ]
          refine wpAnyH_take (i := 3) (v := ?_) rfl (by kernel_rfl) (by kernel_rfl) (by kernel_rfl) (fun _ _ _ h => h) (Or.inl ⟨by rfl, ?_⟩) (by assumption) ?_
          rotate_left
          · intro X hSw
            have hx0 : X.cell? ⟨w1.heap.size, 0, none⟩ = some (.string ⟨s.toArray⟩) := hSw.1.cell 0
            go_simp
            try with_reducible rfl
          rotate_left
          try simp only [Act.put, List.setIfInBounds_toArray, List.set_cons_zero, List.set_cons_succ, List.getElem_toArray, List.getElem_cons_zero, List.getElem_cons_succ]
          refine wpAnyH_take (i := 5) (v := ?_) rfl (by kernel_rfl) (by kernel_rfl) (by kernel_rfl) (fun _ _ _ h => h) (Or.inl ⟨by rfl, ?_⟩) (by assumption) ?_
          rotate_left
          · intro X hSw
            go_simp
            try with_reducible rfl
          rotate_left
          try simp only [Act.put, List.setIfInBounds_toArray, List.set_cons_zero, List.set_cons_succ, List.getElem_toArray, List.getElem_cons_zero, List.getElem_cons_succ]
          refine wpAnyH_take (i := 6) (v := ?_) rfl (by kernel_rfl) (by kernel_rfl) (by kernel_rfl) (fun _ _ _ h => h) (Or.inl ⟨by rfl, ?_⟩) (by assumption) ?_
          rotate_left
          · intro X hSw
            go_simp
            try with_reducible rfl
          rotate_left
          try simp only [Act.put, List.setIfInBounds_toArray, List.set_cons_zero, List.set_cons_succ, List.getElem_toArray, List.getElem_cons_zero, List.getElem_cons_succ]
          refine wpAnyH_done (by kernel_rfl) ?_ _
          have q0 : V9.cell? ⟨w.heap.size, 0, none⟩ = some (.int .i64 k1) := tz.cell 0
          have q1 : V9.cell? ⟨w.heap.size, 1, none⟩ = some (.int .i64 k2) := tz.cell 1
          have q2 : V9.cell? ⟨w.heap.size, 2, none⟩ = some (.int .i64 k3) := tz.cell 2
          have q3 : V9.cell? ⟨w.heap.size, 3, none⟩ = some (.int .i64 k4) := tz.cell 3
          have q4 : V9.cell? ⟨w.heap.size, 4, none⟩ = some (.int .i64 k5) := tz.cell 4
          have q5 : V9.cell? ⟨w.heap.size, 5, none⟩ = some (.string ⟨t1.toArray⟩) := tz.cell 5
          have q6 : V9.cell? ⟨w.heap.size, 6, none⟩ = some (.string ⟨t2.toArray⟩) := tz.cell 6
          have q7 : V9.cell? ⟨w.heap.size, 7, none⟩ = some (.string ⟨t3.toArray⟩) := tz.cell 7
          go_wp2_with fail
          refine bodyPost_ret (v := .tuple #[.agg #[.int .i64 k1, .int .i64 k2, .int .i64 k3, .int .i64 k4, .int .i64 k5, .string ⟨t1.toArray⟩, .string ⟨t2.toArray⟩, .string ⟨t3.toArray⟩], .string ⟨s.toArray⟩, .int .i64 0]) (by simp [results, Try.results21, go_sem, q0, q1, q2, q3, q4, q5, q6, q7]) rfl ⟨by rw [HQ2.out]; rfl, hz⟩
      · rw [if_pos (by rfl)]
        go_wp2_with fail
        obtain ⟨V9, hV⟩ : ∃ V, V = ((((((((W3.setCell ⟨w.heap.size, 0, none⟩ (.int .i64 k1)).setCell ⟨w.heap.size, 1, none⟩ (.int .i64 k2)).setCell ⟨w.heap.size, 2, none⟩ (.int .i64 k3)).setCell ⟨w.heap.size, 3, none⟩ (.int .i64 k4)).setCell ⟨w.heap.size, 4, none⟩ (.int .i64 k5)).setCell ⟨w.heap.size, 5, none⟩ (.string ⟨t1.toArray⟩)).setCell ⟨w.heap.size, 6, none⟩ (.string ⟨t2.toArray⟩)).setCell ⟨w.heap.size, 7, none⟩ (.string ⟨t3.toArray⟩)).drew := ⟨_, rfl⟩
        rw [← hV]
        replace hV : V9 = (set8 W3 w.heap.size (.int .i64 k1) (.int .i64 k2) (.int .i64 k3) (.int .i64 k4) (.int .i64 k5) (.string ⟨t1.toArray⟩) (.string ⟨t2.toArray⟩) (.string ⟨t3.toArray⟩)).drew := hV
        have tz : TBox V9 w.heap.size 23 #[.int .i64 k1, .int .i64 k2, .int .i64 k3, .int .i64 k4, .int .i64 k5, .string ⟨t1.toArray⟩, .string ⟨t2.toArray⟩, .string ⟨t3.toArray⟩] := by rw [hV]; exact TBox_drew (set8_box HTR.out (.int .i64 k1) (.int .i64 k2) (.int .i64 k3) (.int .i64 k4) (.int .i64 k5) (.string ⟨t1.toArray⟩) (.string ⟨t2.toArray⟩) (.string ⟨t3.toArray⟩))
        have hz : Below w.heap.size w V9 := by rw [hV]; exact (set8_below HB3.out (Nat.le_refl _) (.int .i64 k1) (.int .i64 k2) (.int .i64 k3) (.int .i64 k4) (.int .i64 k5) (.string ⟨t1.toArray⟩) (.string ⟨t2.toArray⟩) (.string ⟨t3.toArray⟩)).drew
        have hs9 : (fun U => TBox U w1.heap.size 73 #[.string ⟨s.toArray⟩, .int .i64 (0)] ∧ TBox U w2.heap.size 23 #[.int .i64 k1, .int .i64 k2, .int .i64 k3, .int .i64 k4, .int .i64 k5, .string ⟨t1.toArray⟩, .string ⟨t2.toArray⟩, .string ⟨t3.toArray⟩]) V9 := by
          rw [hV]
          exact ⟨TBox_drew (set8_far HTB.out.1 _ (by omega) (.int .i64 k1) (.int .i64 k2) (.int .i64 k3) (.int .i64 k4) (.int .i64 k5) (.string ⟨t1.toArray⟩) (.string ⟨t2.toArray⟩) (.string ⟨t3.toArray⟩)), TBox_drew (set8_far HTB.out.2 _ (by omega) (.int .i64 k1) (.int .i64 k2) (.int .i64 k3) (.int .i64 k4) (.int .i64 k5) (.string ⟨t1.toArray⟩) (.string ⟨t2.toArray⟩) (.string ⟨t3.toArray⟩))⟩
        clear hV r0 g0 r1 g1 r2 g2 r3 g3 r4 g4 r5 g5 r6 g6 r7 g7
        refine hK.out _ _ hs9 (fun _ => ?_)
        clear hK K
        try simp only [Act.put, List.setIfInBounds_toArray, List.set_cons_zero, List.set_cons_succ, List.getElem_toArray, List.getElem_cons_zero, List.getElem_cons_succ]
        refine wpAnyH_take (i := 2) (v := ?_) rfl (by kernel_rfl) (by kernel_rfl) (by kernel_rfl) (fun _ _ _ h => h) (Or.inl ⟨by rfl, ?_⟩) (by assumption) ?_
        rotate_left
        · intro X hSw
          go_simp
          try with_reducible rfl
        rotate_left
        try simp only [Act.put, List.setIfInBounds_toArray, List.set_cons_zero, List.set_cons_succ, List.getElem_toArray, List.getElem_cons_zero, List.getElem_cons_succ]
        refine wpAnyH_take (i := 3) (v := ?_) rfl (by kernel_rfl) (by kernel_rfl) (by kernel_rfl) (fun _ _ _ h => h) (Or.inl ⟨by rfl, ?_⟩) (by assumption) ?_
        rotate_left
        · intro X hSw
          have hx0 : X.cell? ⟨w1.heap.size, 0, none⟩ = some (.string ⟨s.toArray⟩) := hSw.1.cell 0
          go_simp
          try with_reducible rfl
        rotate_left
        try simp only [Act.put, List.setIfInBounds_toArray, List.set_cons_zero, List.set_cons_succ, List.getElem_toArray, List.getElem_cons_zero, List.getElem_cons_succ]
        refine wpAnyH_take (i := 5) (v := ?_) rfl (by kernel_rfl) (by kernel_rfl) (by kernel_rfl) (fun _ _ _ h => h) (Or.inl ⟨by rfl, ?_⟩) (by assumption) ?_
        rotate_left
        · intro X hSw
          go_simp
          try with_reducible rfl
        rotate_left
        try simp only [Act.put, List.setIfInBounds_toArray, List.set_cons_zero, List.set_cons_succ, List.getElem_toArray, List.getElem_cons_zero, List.getElem_cons_succ]
        refine wpAnyH_take (i := 6) (v := ?_) rfl (by kernel_rfl) (by kernel_rfl) (by kernel_rfl) (fun _ _ _ h => h) (Or.inl ⟨by rfl, ?_⟩) (by assumption) ?_
        rotate_left
        · intro X hSw
          go_simp
          try with_reducible rfl
        rotate_left
        try simp only [Act.put, List.setIfInBounds_toArray, List.set_cons_zero, List.set_cons_succ, List.getElem_toArray, List.getElem_cons_zero, List.getElem_cons_succ]
        refine wpAnyH_done (by kernel_rfl) ?_ _
        have q0 : V9.cell? ⟨w.heap.size, 0, none⟩ = some (.int .i64 k1) := tz.cell 0
        have q1 : V9.cell? ⟨w.heap.size, 1, none⟩ = some (.int .i64 k2) := tz.cell 1
        have q2 : V9.cell? ⟨w.heap.size, 2, none⟩ = some (.int .i64 k3) := tz.cell 2
        have q3 : V9.cell? ⟨w.heap.size, 3, none⟩ = some (.int .i64 k4) := tz.cell 3
        have q4 : V9.cell? ⟨w.heap.size, 4, none⟩ = some (.int .i64 k5) := tz.cell 4
        have q5 : V9.cell? ⟨w.heap.size, 5, none⟩ = some (.string ⟨t1.toArray⟩) := tz.cell 5
        have q6 : V9.cell? ⟨w.heap.size, 6, none⟩ = some (.string ⟨t2.toArray⟩) := tz.cell 6
        have q7 : V9.cell? ⟨w.heap.size, 7, none⟩ = some (.string ⟨t3.toArray⟩) := tz.cell 7
        go_wp2_with fail
        refine bodyPost_ret (v := .tuple #[.agg #[.int .i64 k1, .int .i64 k2, .int .i64 k3, .int .i64 k4, .int .i64 k5, .string ⟨t1.toArray⟩, .string ⟨t2.toArray⟩, .string ⟨t3.toArray⟩], .string ⟨s.toArray⟩, .int .i64 0]) (by simp [results, Try.results21, go_sem, q0, q1, q2, q3, q4, q5, q6, q7]) rfl ⟨by rw [HQ2.out]; rfl, hz⟩
    · rw [if_pos (by rfl)]
      go_wp2_with fail
      obtain ⟨V9, hV⟩ : ∃ V, V = ((((((((W3.setCell ⟨w.heap.size, 0, none⟩ (.int .i64 k1)).setCell ⟨w.heap.size, 1, none⟩ (.int .i64 k2)).setCell ⟨w.heap.size, 2, none⟩ (.int .i64 k3)).setCell ⟨w.heap.size, 3, none⟩ (.int .i64 k4)).setCell ⟨w.heap.size, 4, none⟩ (.int .i64 k5)).setCell ⟨w.heap.size, 5, none⟩ (.string ⟨t1.toArray⟩)).setCell ⟨w.heap.size, 6, none⟩ (.string ⟨t2.toArray⟩)).setCell ⟨w.heap.size, 7, none⟩ (.string ⟨t3.toArray⟩)).drew := ⟨_, rfl⟩
      rw [← hV]
      replace hV : V9 = (set8 W3 w.heap.size (.int .i64 k1) (.int .i64 k2) (.int .i64 k3) (.int .i64 k4) (.int .i64 k5) (.string ⟨t1.toArray⟩) (.string ⟨t2.toArray⟩) (.string ⟨t3.toArray⟩)).drew := hV
      have tz : TBox V9 w.heap.size 23 #[.int .i64 k1, .int .i64 k2, .int .i64 k3, .int .i64 k4, .int .i64 k5, .string ⟨t1.toArray⟩, .string ⟨t2.toArray⟩, .string ⟨t3.toArray⟩] := by rw [hV]; exact TBox_drew (set8_box HTR.out (.int .i64 k1) (.int .i64 k2) (.int .i64 k3) (.int .i64 k4) (.int .i64 k5) (.string ⟨t1.toArray⟩) (.string ⟨t2.toArray⟩) (.string ⟨t3.toArray⟩))
      have hz : Below w.heap.size w V9 := by rw [hV]; exact (set8_below HB3.out (Nat.le_refl _) (.int .i64 k1) (.int .i64 k2) (.int .i64 k3) (.int .i64 k4) (.int .i64 k5) (.string ⟨t1.toArray⟩) (.string ⟨t2.toArray⟩) (.string ⟨t3.toArray⟩)).drew
      have hs9 : (fun U => TBox U w1.heap.size 73 #[.string ⟨s.toArray⟩, .int .i64 (0)] ∧ TBox U w2.heap.size 23 #[.int .i64 k1, .int .i64 k2, .int .i64 k3, .int .i64 k4, .int .i64 k5, .string ⟨t1.toArray⟩, .string ⟨t2.toArray⟩, .string ⟨t3.toArray⟩]) V9 := by
        rw [hV]
        exact ⟨TBox_drew (set8_far HTB.out.1 _ (by omega) (.int .i64 k1) (.int .i64 k2) (.int .i64 k3) (.int .i64 k4) (.int .i64 k5) (.string ⟨t1.toArray⟩) (.string ⟨t2.toArray⟩) (.string ⟨t3.toArray⟩)), TBox_drew (set8_far HTB.out.2 _ (by omega) (.int .i64 k1) (.int .i64 k2) (.int .i64 k3) (.int .i64 k4) (.int .i64 k5) (.string ⟨t1.toArray⟩) (.string ⟨t2.toArray⟩) (.string ⟨t3.toArray⟩))⟩
      clear hV r0 g0 r1 g1 r2 g2 r3 g3 r4 g4 r5 g5 r6 g6 r7 g7
      refine hK.out _ _ hs9 (fun _ => ?_)
      clear hK K
      try simp only [Act.put, List.setIfInBounds_toArray, List.set_cons_zero, List.set_cons_succ, List.getElem_toArray, List.getElem_cons_zero, List.getElem_cons_succ]
      refine wpAnyH_take (i := 1) (v := ?_) rfl (by kernel_rfl) (by kernel_rfl) (by kernel_rfl) (fun _ _ _ h => h) (Or.inl ⟨by rfl, ?_⟩) (by assumption) ?_
      rotate_left
      · intro X hSw
        go_simp
        try with_reducible rfl
      rotate_left
      try simp only [Act.put, List.setIfInBounds_toArray, List.set_cons_zero, List.set_cons_succ, List.getElem_toArray, List.getElem_cons_zero, List.getElem_cons_succ]
      refine wpAnyH_take (i := 2) (v := ?_) rfl (by kernel_rfl) (by kernel_rfl) (by kernel_rfl) (fun _ _ _ h => h) (Or.inl ⟨by rfl, ?_⟩) (by assumption) ?_
      rotate_left
      · intro X hSw
        go_simp
        try with_reducible rfl
      rotate_left
      try simp only [Act.put, List.setIfInBounds_toArray, List.set_cons_zero, List.set_cons_succ, List.getElem_toArray, List.getElem_cons_zero, List.getElem_cons_succ]
      refine wpAnyH_take (i := 3) (v := ?_) rfl (by kernel_rfl) (by kernel_rfl) (by kernel_rfl) (fun _ _ _ h => h) (Or.inl ⟨by rfl, ?_⟩) (by assumption) ?_
      rotate_left
      · intro X hSw
        have hx0 : X.cell? ⟨w1.heap.size, 0, none⟩ = some (.string ⟨s.toArray⟩) := hSw.1.cell 0
        go_simp
        try with_reducible rfl
      rotate_left
      try simp only [Act.put, List.setIfInBounds_toArray, List.set_cons_zero, List.set_cons_succ, List.getElem_toArray, List.getElem_cons_zero, List.getElem_cons_succ]
      refine wpAnyH_take (i := 5) (v := ?_) rfl (by kernel_rfl) (by kernel_rfl) (by kernel_rfl) (fun _ _ _ h => h) (Or.inl ⟨by rfl, ?_⟩) (by assumption) ?_
      rotate_left
      · intro X hSw
        go_simp
        try with_reducible rfl
      rotate_left
      try simp only [Act.put, List.setIfInBounds_toArray, List.set_cons_zero, List.set_cons_succ, List.getElem_toArray, List.getElem_cons_zero, List.getElem_cons_succ]
      refine wpAnyH_take (i := 6) (v := ?_) rfl (by kernel_rfl) (by kernel_rfl) (by kernel_rfl) (fun _ _ _ h => h) (Or.inl ⟨by rfl, ?_⟩) (by assumption) ?_
      rotate_left
      · intro X hSw
        go_simp
        try with_reducible rfl
      rotate_left
      try simp only [Act.put, List.setIfInBounds_toArray, List.set_cons_zero, List.set_cons_succ, List.getElem_toArray, List.getElem_cons_zero, List.getElem_cons_succ]
      refine wpAnyH_done (by kernel_rfl) ?_ _
      have q0 : V9.cell? ⟨w.heap.size, 0, none⟩ = some (.int .i64 k1) := tz.cell 0
      have q1 : V9.cell? ⟨w.heap.size, 1, none⟩ = some (.int .i64 k2) := tz.cell 1
      have q2 : V9.cell? ⟨w.heap.size, 2, none⟩ = some (.int .i64 k3) := tz.cell 2
      have q3 : V9.cell? ⟨w.heap.size, 3, none⟩ = some (.int .i64 k4) := tz.cell 3
      have q4 : V9.cell? ⟨w.heap.size, 4, none⟩ = some (.int .i64 k5) := tz.cell 4
      have q5 : V9.cell? ⟨w.heap.size, 5, none⟩ = some (.string ⟨t1.toArray⟩) := tz.cell 5
      have q6 : V9.cell? ⟨w.heap.size, 6, none⟩ = some (.string ⟨t2.toArray⟩) := tz.cell 6
      have q7 : V9.cell? ⟨w.heap.size, 7, none⟩ = some (.string ⟨t3.toArray⟩) := tz.cell 7
      go_wp2_with fail
      refine bodyPost_ret (v := .tuple #[.agg #[.int .i64 k1, .int .i64 k2, .int .i64 k3, .int .i64 k4, .int .i64 k5, .string ⟨t1.toArray⟩, .string ⟨t2.toArray⟩, .string ⟨t3.toArray⟩], .string ⟨s.toArray⟩, .int .i64 0]) (by simp [results, Try.results21, go_sem, q0, q1, q2, q3, q4, q5, q6, q7]) rfl ⟨by rw [HQ2.out]; rfl, hz⟩
  · have HQ2 := Lib.hid (show q = (call0, [], er) from by rw [HQ.out, if_neg he])
    have hne : (er == 0) = false := by simpa using he
    have hne2 : (er != 0) = true := by simpa using he
    clear HQ he
    go_wp2_with fail
    rw [← HW3.out]
    refine wp_region_held_drew (S := fun U => TBox U w1.heap.size 73 #[.string ⟨s.toArray⟩, .int .i64 (er)] ∧ TBox U w2.heap.size 23 #[.int .i64 k1, .int .i64 k2, .int .i64 k3, .int .i64 k4, .int .i64 k5, .string ⟨t1.toArray⟩, .string ⟨t2.toArray⟩, .string ⟨t3.toArray⟩]) (by kernel_rfl) (HTB.out) (fun hHeld => ?_)
    refine wpAnyH_take (i := 0) (v := ?_) rfl (by kernel_rfl) (by kernel_rfl) (by kernel_rfl) (fun _ _ _ h => h) (Or.inl ⟨by rfl, ?_⟩) (by assumption) ?_
    rotate_left
    · intro X hSw
      go_simp
      try with_reducible rfl
    rotate_left
    try simp only [Act.put, List.setIfInBounds_toArray, List.set_cons_zero, List.set_cons_succ, List.getElem_toArray, List.getElem_cons_zero, List.getElem_cons_succ]
    refine wpAnyH_ready (rs := [1, 4]) (by kernel_rfl) (by simp) ?_
    refine (AllReadyH.cons rfl (fun K hK => ?_) (AllReadyH.cons rfl (fun K hK => ?_) AllReadyH.nil))
    · rw [if_pos (by rfl)]
      go_wp2_with fail
      refine hK.out _ _ hHeld (fun _ => ?_)
      clear hK K
      try simp only [Act.put, List.setIfInBounds_toArray, List.set_cons_zero, List.set_cons_succ, List.getElem_toArray, List.getElem_cons_zero, List.getElem_cons_succ]
      refine wpAnyH_ready (rs := [2, 4]) (by kernel_rfl) (by simp) ?_
      refine (AllReadyH.cons rfl (fun K hK => ?_) (AllReadyH.cons rfl (fun K hK => ?_) AllReadyH.nil))
      · rw [if_pos (by rfl)]
        go_wp2_with fail
        refine hK.out _ _ hHeld (fun _ => ?_)
        clear hK K
        try simp only [Act.put, List.setIfInBounds_toArray, List.set_cons_zero, List.set_cons_succ, List.getElem_toArray, List.getElem_cons_zero, List.getElem_cons_succ]
        refine wpAnyH_ready (rs := [3, 4]) (by kernel_rfl) (by simp) ?_
        refine (AllReadyH.cons rfl (fun K hK => ?_) (AllReadyH.cons rfl (fun K hK => ?_) AllReadyH.nil))
        · rw [if_pos (by rfl)]
          have hx1 : W3.drew.cell? ⟨w1.heap.size, 1, none⟩ = some (.int .i64 (er)) := hHeld.1.cell 1
          go_wp2_with fail
          refine hK.out _ _ hHeld (fun _ => ?_)
          clear hK K
          try simp only [Act.put, List.setIfInBounds_toArray, List.set_cons_zero, List.set_cons_succ, List.getElem_toArray, List.getElem_cons_zero, List.getElem_cons_succ]
          refine wpAnyH_ready (rs := [4]) (by kernel_rfl) (by simp) ?_
          refine (AllReadyH.cons rfl (fun K hK => ?_) AllReadyH.nil)
          rw [if_pos (by rfl)]
          go_wp2_with fail
          obtain ⟨V9, hV⟩ : ∃ V, V = ((((((((W3.setCell ⟨w.heap.size, 0, none⟩ (.int .i64 0)).setCell ⟨w.heap.size, 1, none⟩ (.int .i64 0)).setCell ⟨w.heap.size, 2, none⟩ (.int .i64 0)).setCell ⟨w.heap.size, 3, none⟩ (.int .i64 0)).setCell ⟨w.heap.size, 4, none⟩ (.int .i64 0)).setCell ⟨w.heap.size, 5, none⟩ (.string ⟨#[]⟩)).setCell ⟨w.heap.size, 6, none⟩ (.string ⟨#[]⟩)).setCell ⟨w.heap.size, 7, none⟩ (.string ⟨#[]⟩)).drew := ⟨_, rfl⟩
          rw [← hV]
          replace hV : V9 = (set8 W3 w.heap.size (.int .i64 0) (.int .i64 0) (.int .i64 0) (.int .i64 0) (.int .i64 0) (.string ⟨#[]⟩) (.string ⟨#[]⟩) (.string ⟨#[]⟩)).drew := hV
          have tz : TBox V9 w.heap.size 23 #[.int .i64 0, .int .i64 0, .int .i64 0, .int .i64 0, .int .i64 0, .string ⟨#[]⟩, .string ⟨#[]⟩, .string ⟨#[]⟩] := by rw [hV]; exact TBox_drew (set8_box HTR.out (.int .i64 0) (.int .i64 0) (.int .i64 0) (.int .i64 0) (.int .i64 0) (.string ⟨#[]⟩) (.string ⟨#[]⟩) (.string ⟨#[]⟩))
          have hz : Below w.heap.size w V9 := by rw [hV]; exact (set8_below HB3.out (Nat.le_refl _) (.int .i64 0) (.int .i64 0) (.int .i64 0) (.int .i64 0) (.int .i64 0) (.string ⟨#[]⟩) (.string ⟨#[]⟩) (.string ⟨#[]⟩)).drew
          have hs9 : (fun U => TBox U w1.heap.size 73 #[.string ⟨s.toArray⟩, .int .i64 (er)] ∧ TBox U w2.heap.size 23 #[.int .i64 k1, .int .i64 k2, .int .i64 k3, .int .i64 k4, .int .i64 k5, .string ⟨t1.toArray⟩, .string ⟨t2.toArray⟩, .string ⟨t3.toArray⟩]) V9 := by
            rw [hV]
            exact ⟨TBox_drew (set8_far HTB.out.1 _ (by omega) (.int .i64 0) (.int .i64 0) (.int .i64 0) (.int .i64 0) (.int .i64 0) (.string ⟨#[]⟩) (.string ⟨#[]⟩) (.string ⟨#[]⟩)), TBox_drew (set8_far HTB.out.2 _ (by omega) (.int .i64 0) (.int .i64 0) (.int .i64 0) (.int .i64 0) (.int .i64 0) (.string ⟨#[]⟩) (.string ⟨#[]⟩) (.string ⟨#[]⟩))⟩
          clear hV r0 g0 r1 g1 r2 g2 r3 g3 r4 g4 r5 g5 r6 g6 r7 g7
          refine hK.out _ _ hs9 (fun _ => ?_)
          clear hK K
          try simp only [Act.put, List.setIfInBounds_toArray, List.set_cons_zero, List.set_cons_succ, List.getElem_toArray, List.getElem_cons_zero, List.getElem_cons_succ]
          refine wpAnyH_take (i := 5) (v := ?_) rfl (by kernel_rfl) (by kernel_rfl) (by kernel_rfl) (fun _ _ _ h => h) (Or.inl ⟨by rfl, ?_⟩) (by assumption) ?_
          rotate_left
          · intro X hSw
            go_simp
            try with_reducible rfl
          rotate_left
          try simp only [Act.put, List.setIfInBounds_toArray, List.set_cons_zero, List.set_cons_succ, List.getElem_toArray, List.getElem_cons_zero, List.getElem_cons_succ]
          refine wpAnyH_take (i := 6) (v := ?_) rfl (by kernel_rfl) (by kernel_rfl) (by kernel_rfl) (fun _ _ _ h => h) (Or.inl ⟨by rfl, ?_⟩) (by assumption) ?_
          rotate_left
          · intro X hSw
            go_simp
            try with_reducible rfl
          rotate_left
          try simp only [Act.put, List.setIfInBounds_toArray, List.set_cons_zero, List.set_cons_succ, List.getElem_toArray, List.getElem_cons_zero, List.getElem_cons_succ]
          refine wpAnyH_done (by kernel_rfl) ?_ _
          have q0 : V9.cell? ⟨w.heap.size, 0, none⟩ = some (.int .i64 0) := tz.cell 0
          have q1 : V9.cell? ⟨w.heap.size, 1, none⟩ = some (.int .i64 0) := tz.cell 1
          have q2 : V9.cell? ⟨w.heap.size, 2, none⟩ = some (.int .i64 0) := tz.cell 2
          have q3 : V9.cell? ⟨w.heap.size, 3, none⟩ = some (.int .i64 0) := tz.cell 3
          have q4 : V9.cell? ⟨w.heap.size, 4, none⟩ = some (.int .i64 0) := tz.cell 4
          have q5 : V9.cell? ⟨w.heap.size, 5, none⟩ = some (.string ⟨#[]⟩) := tz.cell 5
          have q6 : V9.cell? ⟨w.heap.size, 6, none⟩ = some (.string ⟨#[]⟩) := tz.cell 6
          have q7 : V9.cell? ⟨w.heap.size, 7, none⟩ = some (.string ⟨#[]⟩) := tz.cell 7
          go_wp2_with fail
          refine bodyPost_ret (v := .tuple #[.agg #[.int .i64 0, .int .i64 0, .int .i64 0, .int .i64 0, .int .i64 0, .string ⟨#[]⟩, .string ⟨#[]⟩, .string ⟨#[]⟩], .string ⟨#[]⟩, .int .i64 er]) (by simp [results, Try.results21, go_sem, q0, q1, q2, q3, q4, q5, q6, q7]) rfl ⟨by rw [HQ2.out]; rfl, hz⟩
        · rw [if_pos (by rfl)]
          go_wp2_with fail
          obtain ⟨V9, hV⟩ : ∃ V, V = ((((((((W3.setCell ⟨w.heap.size, 0, none⟩ (.int .i64 0)).setCell ⟨w.heap.size, 1, none⟩ (.int .i64 0)).setCell ⟨w.heap.size, 2, none⟩ (.int .i64 0)).setCell ⟨w.heap.size, 3, none⟩ (.int .i64 0)).setCell ⟨w.heap.size, 4, none⟩ (.int .i64 0)).setCell ⟨w.heap.size, 5, none⟩ (.string ⟨#[]⟩)).setCell ⟨w.heap.size, 6, none⟩ (.string ⟨#[]⟩)).setCell ⟨w.heap.size, 7, none⟩ (.string ⟨#[]⟩)).drew := ⟨_, rfl⟩
          rw [← hV]
          replace hV : V9 = (set8 W3 w.heap.size (.int .i64 0) (.int .i64 0) (.int .i64 0) (.int .i64 0) (.int .i64 0) (.string ⟨#[]⟩) (.string ⟨#[]⟩) (.string ⟨#[]⟩)).drew := hV
          have tz : TBox V9 w.heap.size 23 #[.int .i64 0, .int .i64 0, .int .i64 0, .int .i64 0, .int .i64 0, .string ⟨#[]⟩, .string ⟨#[]⟩, .string ⟨#[]⟩] := by rw [hV]; exact TBox_drew (set8_box HTR.out (.int .i64 0) (.int .i64 0) (.int .i64 0) (.int .i64 0) (.int .i64 0) (.string ⟨#[]⟩) (.string ⟨#[]⟩) (.string ⟨#[]⟩))
          have hz : Below w.heap.size w V9 := by rw [hV]; exact (set8_below HB3.out (Nat.le_refl _) (.int .i64 0) (.int .i64 0) (.int .i64 0) (.int .i64 0) (.int .i64 0) (.string ⟨#[]⟩) (.string ⟨#[]⟩) (.string ⟨#[]⟩)).drew
          have hs9 : (fun U => TBox U w1.heap.size 73 #[.string ⟨s.toArray⟩, .int .i64 (er)] ∧ TBox U w2.heap.size 23 #[.int .i64 k1, .int .i64 k2, .int .i64 k3, .int .i64 k4, .int .i64 k5, .string ⟨t1.toArray⟩, .string ⟨t2.toArray⟩, .string ⟨t3.toArray⟩]) V9 := by
            rw [hV]
            exact ⟨TBox_drew (set8_far HTB.out.1 _ (by omega) (.int .i64 0) (.int .i64 0) (.int .i64 0) (.int .i64 0) (.int .i64 0) (.string ⟨#[]⟩) (.string ⟨#[]⟩) (.string ⟨#[]⟩)), TBox_drew (set8_far HTB.out.2 _ (by omega) (.int .i64 0) (.int .i64 0) (.int .i64 0) (.int .i64 0) (.int .i64 0) (.string ⟨#[]⟩) (.string ⟨#[]⟩) (.string ⟨#[]⟩))⟩
          clear hV r0 g0 r1 g1 r2 g2 r3 g3 r4 g4 r5 g5 r6 g6 r7 g7
          refine hK.out _ _ hs9 (fun _ => ?_)
          clear hK K
          try simp only [Act.put, List.setIfInBounds_toArray, List.set_cons_zero, List.set_cons_succ, List.getElem_toArray, List.getElem_cons_zero, List.getElem_cons_succ]
          refine wpAnyH_take (i := 3) (v := ?_) rfl (by kernel_rfl) (by kernel_rfl) (by kernel_rfl) (fun _ _ _ h => h) (Or.inl ⟨by rfl, ?_⟩) (by assumption) ?_
          rotate_left
          · intro X hSw
            have hx1 : X.cell? ⟨w1.heap.size, 1, none⟩ = some (.int .i64 (er)) := hSw.1.cell 1
            go_simp
            try with_reducible rfl
          rotate_left
          try simp only [Act.put, List.setIfInBounds_toArray, List.set_cons_zero, List.set_cons_succ, List.getElem_toArray, List.getElem_cons_zero, List.getElem_cons_succ]
          refine wpAnyH_take (i := 5) (v := ?_) rfl (by kernel_rfl) (by kernel_rfl) (by kernel_rfl) (fun _ _ _ h => h) (Or.inl ⟨by rfl, ?_⟩) (by assumption) ?_
          rotate_left
          · intro X hSw
            go_simp
            try with_reducible rfl
          rotate_left
          try simp only [Act.put, List.setIfInBounds_toArray, List.set_cons_zero, List.set_cons_succ, List.getElem_toArray, List.getElem_cons_zero, List.getElem_cons_succ]
          refine wpAnyH_take (i := 6) (v := ?_) rfl (by kernel_rfl) (by kernel_rfl) (by kernel_rfl) (fun _ _ _ h => h) (Or.inl ⟨by rfl, ?_⟩) (by assumption) ?_
          rotate_left
          · intro X hSw
            go_simp
            try with_reducible rfl
          rotate_left
          try simp only [Act.put, List.setIfInBounds_toArray, List.set_cons_zero, List.set_cons_succ, List.getElem_toArray, List.getElem_cons_zero, List.getElem_cons_succ]
          refine wpAnyH_done (by kernel_rfl) ?_ _
          have q0 : V9.cell? ⟨w.heap.size, 0, none⟩ = some (.int .i64 0) := tz.cell 0
          have q1 : V9.cell? ⟨w.heap.size, 1, none⟩ = some (.int .i64 0) := tz.cell 1
          have q2 : V9.cell? ⟨w.heap.size, 2, none⟩ = some (.int .i64 0) := tz.cell 2
          have q3 : V9.cell? ⟨w.heap.size, 3, none⟩ = some (.int .i64 0) := tz.cell 3
          have q4 : V9.cell? ⟨w.heap.size, 4, none⟩ = some (.int .i64 0) := tz.cell 4
          have q5 : V9.cell? ⟨w.heap.size, 5, none⟩ = some (.string ⟨#[]⟩) := tz.cell 5
          have q6 : V9.cell? ⟨w.heap.size, 6, none⟩ = some (.string ⟨#[]⟩) := tz.cell 6
          have q7 : V9.cell? ⟨w.heap.size, 7, none⟩ = some (.string ⟨#[]⟩) := tz.cell 7
          go_wp2_with fail
          refine bodyPost_ret (v := .tuple #[.agg #[.int .i64 0, .int .i64 0, .int .i64 0, .int .i64 0, .int .i64 0, .string ⟨#[]⟩, .string ⟨#[]⟩, .string ⟨#[]⟩], .string ⟨#[]⟩, .int .i64 er]) (by simp [results, Try.results21, go_sem, q0, q1, q2, q3, q4, q5, q6, q7]) rfl ⟨by rw [HQ2.out]; rfl, hz⟩
      · rw [if_pos (by rfl)]
        go_wp2_with fail
        obtain ⟨V9, hV⟩ : ∃ V, V = ((((((((W3.setCell ⟨w.heap.size, 0, none⟩ (.int .i64 0)).setCell ⟨w.heap.size, 1, none⟩ (.int .i64 0)).setCell ⟨w.heap.size, 2, none⟩ (.int .i64 0)).setCell ⟨w.heap.size, 3, none⟩ (.int .i64 0)).setCell ⟨w.heap.size, 4, none⟩ (.int .i64 0)).setCell ⟨w.heap.size, 5, none⟩ (.string ⟨#[]⟩)).setCell ⟨w.heap.size, 6, none⟩ (.string ⟨#[]⟩)).setCell ⟨w.heap.size, 7, none⟩ (.string ⟨#[]⟩)).drew := ⟨_, rfl⟩
        rw [← hV]
        replace hV : V9 = (set8 W3 w.heap.size (.int .i64 0) (.int .i64 0) (.int .i64 0) (.int .i64 0) (.int .i64 0) (.string ⟨#[]⟩) (.string ⟨#[]⟩) (.string ⟨#[]⟩)).drew := hV
        have tz : TBox V9 w.heap.size 23 #[.int .i64 0, .int .i64 0, .int .i64 0, .int .i64 0, .int .i64 0, .string ⟨#[]⟩, .string ⟨#[]⟩, .string ⟨#[]⟩] := by rw [hV]; exact TBox_drew (set8_box HTR.out (.int .i64 0) (.int .i64 0) (.int .i64 0) (.int .i64 0) (.int .i64 0) (.string ⟨#[]⟩) (.string ⟨#[]⟩) (.string ⟨#[]⟩))
        have hz : Below w.heap.size w V9 := by rw [hV]; exact (set8_below HB3.out (Nat.le_refl _) (.int .i64 0) (.int .i64 0) (.int .i64 0) (.int .i64 0) (.int .i64 0) (.string ⟨#[]⟩) (.string ⟨#[]⟩) (.string ⟨#[]⟩)).drew
        have hs9 : (fun U => TBox U w1.heap.size 73 #[.string ⟨s.toArray⟩, .int .i64 (er)] ∧ TBox U w2.heap.size 23 #[.int .i64 k1, .int .i64 k2, .int .i64 k3, .int .i64 k4, .int .i64 k5, .string ⟨t1.toArray⟩, .string ⟨t2.toArray⟩, .string ⟨t3.toArray⟩]) V9 := by
          rw [hV]
          exact ⟨TBox_drew (set8_far HTB.out.1 _ (by omega) (.int .i64 0) (.int .i64 0) (.int .i64 0) (.int .i64 0) (.int .i64 0) (.string ⟨#[]⟩) (.string ⟨#[]⟩) (.string ⟨#[]⟩)), TBox_drew (set8_far HTB.out.2 _ (by omega) (.int .i64 0) (.int .i64 0) (.int .i64 0) (.int .i64 0) (.int .i64 0) (.string ⟨#[]⟩) (.string ⟨#[]⟩) (.string ⟨#[]⟩))⟩
        clear hV r0 g0 r1 g1 r2 g2 r3 g3 r4 g4 r5 g5 r6 g6 r7 g7
        refine hK.out _ _ hs9 (fun _ => ?_)
        clear hK K
        try simp only [Act.put, List.setIfInBounds_toArray, List.set_cons_zero, List.set_cons_succ, List.getElem_toArray, List.getElem_cons_zero, List.getElem_cons_succ]
        refine wpAnyH_take (i := 2) (v := ?_) rfl (by kernel_rfl) (by kernel_rfl) (by kernel_rfl) (fun _ _ _ h => h) (Or.inl ⟨by rfl, ?_⟩) (by assumption) ?_
        rotate_left
        · intro X hSw
          go_simp
          try with_reducible rfl
        rotate_left
        try simp only [Act.put, List.setIfInBounds_toArray, List.set_cons_zero, List.set_cons_succ, List.getElem_toArray, List.getElem_cons_zero, List.getElem_cons_succ]
        refine wpAnyH_take (i := 3) (v := ?_) rfl (by kernel_rfl) (by kernel_rfl) (by kernel_rfl) (fun _ _ _ h => h) (Or.inl ⟨by rfl, ?_⟩) (by assumption) ?_
        rotate_left
        · intro X hSw
          have hx1 : X.cell? ⟨w1.heap.size, 1, none⟩ = some (.int .i64 (er)) := hSw.1.cell 1
          go_simp
          try with_reducible rfl
        rotate_left
        try simp only [Act.put, List.setIfInBounds_toArray, List.set_cons_zero, List.set_cons_succ, List.getElem_toArray, List.getElem_cons_zero, List.getElem_cons_succ]
        refine wpAnyH_take (i := 5) (v := ?_) rfl (by kernel_rfl) (by kernel_rfl) (by kernel_rfl) (fun _ _ _ h => h) (Or.inl ⟨by rfl, ?_⟩) (by assumption) ?_
        rotate_left
        · intro X hSw
          go_simp
          try with_reducible rfl
        rotate_left
        try simp only [Act.put, List.setIfInBounds_toArray, List.set_cons_zero, List.set_cons_succ, List.getElem_toArray, List.getElem_cons_zero, List.getElem_cons_succ]
        refine wpAnyH_take (i := 6) (v := ?_) rfl (by kernel_rfl) (by kernel_rfl) (by kernel_rfl) (fun _ _ _ h => h) (Or.inl ⟨by rfl, ?_⟩) (by assumption) ?_
        rotate_left
        · intro X hSw
          go_simp
          try with_reducible rfl
        rotate_left
        try simp only [Act.put, List.setIfInBounds_toArray, List.set_cons_zero, List.set_cons_succ, List.getElem_toArray, List.getElem_cons_zero, List.getElem_cons_succ]
        refine wpAnyH_done (by kernel_rfl) ?_ _
        have q0 : V9.cell? ⟨w.heap.size, 0, none⟩ = some (.int .i64 0) := tz.cell 0
        have q1 : V9.cell? ⟨w.heap.size, 1, none⟩ = some (.int .i64 0) := tz.cell 1
        have q2 : V9.cell? ⟨w.heap.size, 2, none⟩ = some (.int .i64 0) := tz.cell 2
        have q3 : V9.cell? ⟨w.heap.size, 3, none⟩ = some (.int .i64 0) := tz.cell 3
        have q4 : V9.cell? ⟨w.heap.size, 4, none⟩ = some (.int .i64 0) := tz.cell 4
        have q5 : V9.cell? ⟨w.heap.size, 5, none⟩ = some (.string ⟨#[]⟩) := tz.cell 5
        have q6 : V9.cell? ⟨w.heap.size, 6, none⟩ = some (.string ⟨#[]⟩) := tz.cell 6
        have q7 : V9.cell? ⟨w.heap.size, 7, none⟩ = some (.string ⟨#[]⟩) := tz.cell 7
        go_wp2_with fail
        refine bodyPost_ret (v := .tuple #[.agg #[.int .i64 0, .int .i64 0, .int .i64 0, .int .i64 0, .int .i64 0, .string ⟨#[]⟩, .string ⟨#[]⟩, .string ⟨#[]⟩], .string ⟨#[]⟩, .int .i64 er]) (by simp [results, Try.results21, go_sem, q0, q1, q2, q3, q4, q5, q6, q7]) rfl ⟨by rw [HQ2.out]; rfl, hz⟩
    · rw [if_pos (by rfl)]
      go_wp2_with fail
      obtain ⟨V9, hV⟩ : ∃ V, V = ((((((((W3.setCell ⟨w.heap.size, 0, none⟩ (.int .i64 0)).setCell ⟨w.heap.size, 1, none⟩ (.int .i64 0)).setCell ⟨w.heap.size, 2, none⟩ (.int .i64 0)).setCell ⟨w.heap.size, 3, none⟩ (.int .i64 0)).setCell ⟨w.heap.size, 4, none⟩ (.int .i64 0)).setCell ⟨w.heap.size, 5, none⟩ (.string ⟨#[]⟩)).setCell ⟨w.heap.size, 6, none⟩ (.string ⟨#[]⟩)).setCell ⟨w.heap.size, 7, none⟩ (.string ⟨#[]⟩)).drew := ⟨_, rfl⟩
      rw [← hV]
      replace hV : V9 = (set8 W3 w.heap.size (.int .i64 0) (.int .i64 0) (.int .i64 0) (.int .i64 0) (.int .i64 0) (.string ⟨#[]⟩) (.string ⟨#[]⟩) (.string ⟨#[]⟩)).drew := hV
      have tz : TBox V9 w.heap.size 23 #[.int .i64 0, .int .i64 0, .int .i64 0, .int .i64 0, .int .i64 0, .string ⟨#[]⟩, .string ⟨#[]⟩, .string ⟨#[]⟩] := by rw [hV]; exact TBox_drew (set8_box HTR.out (.int .i64 0) (.int .i64 0) (.int .i64 0) (.int .i64 0) (.int .i64 0) (.string ⟨#[]⟩) (.string ⟨#[]⟩) (.string ⟨#[]⟩))
      have hz : Below w.heap.size w V9 := by rw [hV]; exact (set8_below HB3.out (Nat.le_refl _) (.int .i64 0) (.int .i64 0) (.int .i64 0) (.int .i64 0) (.int .i64 0) (.string ⟨#[]⟩) (.string ⟨#[]⟩) (.string ⟨#[]⟩)).drew
      have hs9 : (fun U => TBox U w1.heap.size 73 #[.string ⟨s.toArray⟩, .int .i64 (er)] ∧ TBox U w2.heap.size 23 #[.int .i64 k1, .int .i64 k2, .int .i64 k3, .int .i64 k4, .int .i64 k5, .string ⟨t1.toArray⟩, .string ⟨t2.toArray⟩, .string ⟨t3.toArray⟩]) V9 := by
        rw [hV]
        exact ⟨TBox_drew (set8_far HTB.out.1 _ (by omega) (.int .i64 0) (.int .i64 0) (.int .i64 0) (.int .i64 0) (.int .i64 0) (.string ⟨#[]⟩) (.string ⟨#[]⟩) (.string ⟨#[]⟩)), TBox_drew (set8_far HTB.out.2 _ (by omega) (.int .i64 0) (.int .i64 0) (.int .i64 0) (.int .i64 0) (.int .i64 0) (.string ⟨#[]⟩) (.string ⟨#[]⟩) (.string ⟨#[]⟩))⟩
      clear hV r0 g0 r1 g1 r2 g2 r3 g3 r4 g4 r5 g5 r6 g6 r7 g7
      refine hK.out _ _ hs9 (fun _ => ?_)
      clear hK K
      try simp only [Act.put, List.setIfInBounds_toArray, List.set_cons_zero, List.set_cons_succ, List.getElem_toArray, List.getElem_cons_zero, List.getElem_cons_succ]
      refine wpAnyH_take (i := 1) (v := ?_) rfl (by kernel_rfl) (by kernel_rfl) (by kernel_rfl) (fun _ _ _ h => h) (Or.inl ⟨by rfl, ?_⟩) (by assumption) ?_
      rotate_left
      · intro X hSw
        go_simp
        try with_reducible rfl
      rotate_left
      try simp only [Act.put, List.setIfInBounds_toArray, List.set_cons_zero, List.set_cons_succ, List.getElem_toArray, List.getElem_cons_zero, List.getElem_cons_succ]
      refine wpAnyH_take (i := 2) (v := ?_) rfl (by kernel_rfl) (by kernel_rfl) (by kernel_rfl) (fun _ _ _ h => h) (Or.inl ⟨by rfl, ?_⟩) (by assumption) ?_
      rotate_left
      · intro X hSw
        go_simp
        try with_reducible rfl
      rotate_left
      try simp only [Act.put, List.setIfInBounds_toArray, List.set_cons_zero, List.set_cons_succ, List.getElem_toArray, List.getElem_cons_zero, List.getElem_cons_succ]
      refine wpAnyH_take (i := 3) (v := ?_) rfl (by kernel_rfl) (by kernel_rfl) (by kernel_rfl) (fun _ _ _ h => h) (Or.inl ⟨by rfl, ?_⟩) (by assumption) ?_
      rotate_left
      · intro X hSw
        have hx1 : X.cell? ⟨w1.heap.size, 1, none⟩ = some (.int .i64 (er)) := hSw.1.cell 1
        go_simp
        try with_reducible rfl
      rotate_left
      try simp only [Act.put, List.setIfInBounds_toArray, List.set_cons_zero, List.set_cons_succ, List.getElem_toArray, List.getElem_cons_zero, List.getElem_cons_succ]
      refine wpAnyH_take (i := 5) (v := ?_) rfl (by kernel_rfl) (by kernel_rfl) (by kernel_rfl) (fun _ _ _ h => h) (Or.inl ⟨by rfl, ?_⟩) (by assumption) ?_
      rotate_left
      · intro X hSw
        go_simp
        try with_reducible rfl
      rotate_left
      try simp only [Act.put, List.setIfInBounds_toArray, List.set_cons_zero, List.set_cons_succ, List.getElem_toArray, List.getElem_cons_zero, List.getElem_cons_succ]
      refine wpAnyH_take (i := 6) (v := ?_) rfl (by kernel_rfl) (by kernel_rfl) (by kernel_rfl) (fun _ _ _ h => h) (Or.inl ⟨by rfl, ?_⟩) (by assumption) ?_
      rotate_left
      · intro X hSw
        go_simp
        try with_reducible rfl
      rotate_left
      try simp only [Act.put, List.setIfInBounds_toArray, List.set_cons_zero, List.set_cons_succ, List.getElem_toArray, List.getElem_cons_zero, List.getElem_cons_succ]
      refine wpAnyH_done (by kernel_rfl) ?_ _
      have q0 : V9.cell? ⟨w.heap.size, 0, none⟩ = some (.int .i64 0) := tz.cell 0
      have q1 : V9.cell? ⟨w.heap.size, 1, none⟩ = some (.int .i64 0) := tz.cell 1
      have q2 : V9.cell? ⟨w.heap.size, 2, none⟩ = some (.int .i64 0) := tz.cell 2
      have q3 : V9.cell? ⟨w.heap.size, 3, none⟩ = some (.int .i64 0) := tz.cell 3
      have q4 : V9.cell? ⟨w.heap.size, 4, none⟩ = some (.int .i64 0) := tz.cell 4
      have q5 : V9.cell? ⟨w.heap.size, 5, none⟩ = some (.string ⟨#[]⟩) := tz.cell 5
      have q6 : V9.cell? ⟨w.heap.size, 6, none⟩ = some (.string ⟨#[]⟩) := tz.cell 6
      have q7 : V9.cell? ⟨w.heap.size, 7, none⟩ = some (.string ⟨#[]⟩) := tz.cell 7
      go_wp2_with fail
      refine bodyPost_ret (v := .tuple #[.agg #[.int .i64 0, .int .i64 0, .int .i64 0, .int .i64 0, .int .i64 0, .string ⟨#[]⟩, .string ⟨#[]⟩, .string ⟨#[]⟩], .string ⟨#[]⟩, .int .i64 er]) (by simp [results, Try.results21, go_sem, q0, q1, q2, q3, q4, q5, q6, q7]) rfl ⟨by rw [HQ2.out]; rfl, hz⟩
end Go.Proofs.Ytpojhcpkmpbflaa
