/- The walk of NetOther, of the one row: it returns true for every net, text and place, and leaves them as they were: the other row stays as it is, whatever is done to one. No condition beyond the form's own reach. -/
import Derived.Test.YtmpiglciplpfhaaNetOtherP
import Derived.Test.YtmpiglciplpfhaaLaw
namespace Go.Proofs.Ytmpiglciplpfhaa.netOther
open Go.ChangeShapes Go.WideShapes Go.ChangeAt Go.RowKit Copyhold
open Go.ChangeMaps (open_string shut_string)
set_option linter.unusedVariables false

set_option maxRecDepth 100000 in
set_option maxHeartbeats 8000000 in
theorem walk_up (w : World) (A : Option Addr) (c : Nat) (us : List (List UInt8)) (B : Option Addr) (d : Nat) (ds : List (List UInt8)) (hu : Row w (.slice A us.length c) (us.map strV)) (hd : Row w (.slice B ds.length d) (ds.map strV)) (zu : us.length ≤ 8796093022207) (zd : ds.length ≤ 8796093022207)
    (hrl : ∀ l ∈ us, l.length ≤ 140737488351232) (s : List UInt8) (zs : s.length ≤ 140737488351232) (i : Int) (b20 : -9223372036854775808 ≤ i) (b21 : i ≤ 9223372036854775807) (a : Int) (b30 : -9223372036854775808 ≤ a) (b31 : a ≤ 9223372036854775807) :
    Calls Try.prog 3 #[.agg #[.slice A us.length c, .slice B ds.length d, .bool true, .string ⟨s.toArray⟩, .int .i64 i, .int .i64 a]] w fun e w' => e = .returned (.bool true) ∧ Below w.heap.size w w' := by
  have hn0 : IsNet (· < w.heap.size) w (.agg #[.slice A us.length c, .slice B ds.length d]) (us, ds) := ⟨A, c, B, d, rfl, hu, hd, hu.lies, hd.lies⟩
  obtain ⟨W0, hW0⟩ : ∃ W0, W0 = (w.alloc (.cells #[.slice A us.length c, .slice B ds.length d, .bool true, .string ⟨s.toArray⟩, .int .i64 i, .int .i64 a] 26)).alloc (.cells #[.slice A us.length c, .slice B ds.length d] 24) := ⟨_, rfl⟩
  have hb0 : Below w.heap.size w W0 := by rw [hW0]; exact ((Below.refl _ _).alloc (Nat.le_refl _) _).alloc (by simp) _
  have k0 : W0.cell? ⟨w.heap.size + 1, 0, none⟩ = some (.slice A us.length c) := by rw [hW0]; simp [go_sem]
  have k1 : W0.cell? ⟨w.heap.size + 1, 1, none⟩ = some (.slice B ds.length d) := by rw [hW0]; simp [go_sem]
  have HN0 := Lib.hid (hn0.keep hb0)
  have HB0 := Lib.hid hb0
  have HW0 := Lib.hid hW0
  have HRL := Lib.hid hrl
  clear hu hd hn0 hW0 hb0 hrl
  go_enter Try.func3, Try.ntmps3
  go_wp2_with fail
  rw [← HW0.out]
  refine (law_shown _).mono ?_
  rintro e1 w1 ⟨rfl, hb1⟩
  have HN1 := Lib.hid (HN0.out.keep hb1)
  have HB1 := Lib.hid (below_trans HB0.out hb1 HB0.out.size)
  have k10 := cell_keep hb1 k0
  have k11 := cell_keep hb1 k1
  clear k0 k1 hb1 HN0
  go_wp2_with fail
  refine (ref_Few _ (us, ds) _ _ HN1.out (by simp only; omega) (by simp only; omega)).mono ?_
  rintro e2 w2 ⟨few, rfl, hb2⟩
  have HN2 := Lib.hid (HN1.out.keep hb2)
  have HB2 := Lib.hid (below_trans HB1.out hb2 HB1.out.size)
  have k20 := cell_keep hb2 k10
  have k21 := cell_keep hb2 k11
  clear k10 k11 hb2 HN1
  cases few
  · go_wp2_with fail
    go_ret
    exact ⟨rfl, HB2.out⟩
  rcases (show 1000 < s.length ∨ s.length ≤ 1000 from by omega) with hl | hl
  · go_wp2_with fail
    go_ret
    exact ⟨rfl, HB2.out⟩
  go_wp2_with fail
  refine (net_Take_other (us, ds) true i _ _ HN2.out (by simp only; omega) (by simp only; omega) b20 b21).mono ?_
  rintro e3 w3 ⟨s3, ⟨u3, d3⟩, ok3, ⟨v3, rfl, hn3, hb3⟩, hrow3⟩
  simp only [rowN, Bool.not_true, Bool.false_eq_true, if_false] at hrow3
  cases hrow3
  obtain ⟨A3, c3, B3, e3', rfl, -, -, -, -⟩ := id hn3
  have HN3 := Lib.hid (net_rows hn3).2
  have HO3 := Lib.hid (HN2.out.keep hb3)
  have HB3 := Lib.hid (below_trans HB2.out hb3 HB2.out.size)
  have k30 := cell_keep hb3 k20
  have k31 := cell_keep hb3 k21
  have l3 := cell_lt k30
  clear k20 k21 hb3 hn3 HN2
  obtain ⟨W4, hW4⟩ : ∃ W4, W4 = w3.alloc (.cells #[.slice A3 u3.length c3, .slice B3 ds.length e3'] 24) := ⟨_, rfl⟩
  have hb4 : Below w3.heap.size w3 W4 := by rw [hW4]; exact (Below.refl _ _).alloc (Nat.le_refl _) _
  have k40 := cell_keep hb4 k30
  have k41 := cell_keep hb4 k31
  have m40 : W4.cell? ⟨w3.heap.size, 0, none⟩ = some (.slice A3 u3.length c3) := by rw [hW4]; exact cell_new _ _ _ 0
  have m41 : W4.cell? ⟨w3.heap.size, 1, none⟩ = some (.slice B3 ds.length e3') := by rw [hW4]; exact cell_new _ _ _ 1
  have HW4 := Lib.hid hW4
  have HN4 := Lib.hid (HN3.out.below hb4)
  have HO4 := Lib.hid (HO3.out.keep hb4)
  have HB4 := Lib.hid (below_trans HB3.out hb4 HB3.out.size)
  clear hW4 hb4 HN3 HO3
  simp only
  go_wp2_with fail
  rw [← HW4.out]
  clear k30 k31
  have ho5 := other_twice (us, ds) true i
  refine (net_Twice (us, ds) true i _ _ HO4.out (by simp only; omega) (by simp only; omega) b20 b21).mono ?_
  generalize twiceD (us, ds) true i = r5 at *
  obtain ⟨⟨u5, d5⟩, ok5⟩ := r5
  simp only [rowN, Bool.not_true, Bool.false_eq_true, if_false] at ho5
  cases ho5
  rintro e5 w5 ⟨v5, rfl, hn5, hb5⟩
  obtain ⟨A5, c5, B5, e5', rfl, -, -, -, -⟩ := id hn5
  have HN5 := Lib.hid (HN4.out.below hb5)
  have HP5 := Lib.hid (net_rows hn5).2
  have HO5 := Lib.hid (HO4.out.keep hb5)
  have HB5 := Lib.hid (below_trans HB4.out hb5 HB4.out.size)
  have k50 := cell_keep hb5 k40
  have k51 := cell_keep hb5 k41
  have m50 := cell_keep hb5 m40
  have m51 := cell_keep hb5 m41
  have l5 := cell_lt k50
  clear k40 k41 m40 m41 hb5 hn5 HN4 HO4
  obtain ⟨W6, hW6⟩ : ∃ W6, W6 = w5.alloc (.cells #[.slice A5 u5.length c5, .slice B5 ds.length e5'] 24) := ⟨_, rfl⟩
  have hb6 : Below w5.heap.size w5 W6 := by rw [hW6]; exact (Below.refl _ _).alloc (Nat.le_refl _) _
  have k60 := cell_keep hb6 k50
  have k61 := cell_keep hb6 k51
  have m60 := cell_keep hb6 m50
  have m61 := cell_keep hb6 m51
  have p60 : W6.cell? ⟨w5.heap.size, 0, none⟩ = some (.slice A5 u5.length c5) := by rw [hW6]; exact cell_new _ _ _ 0
  have p61 : W6.cell? ⟨w5.heap.size, 1, none⟩ = some (.slice B5 ds.length e5') := by rw [hW6]; exact cell_new _ _ _ 1
  have HW6 := Lib.hid hW6
  have HN6 := Lib.hid (HN5.out.below hb6)
  have HP6 := Lib.hid (HP5.out.below hb6)
  have HO6 := Lib.hid (HO5.out.keep hb6)
  have HB6 := Lib.hid (below_trans HB5.out hb6 HB5.out.size)
  clear hW6 hb6 HN5 HP5 HO5
  simp only
  go_wp2_with fail
  rw [← HW6.out]
  clear k50 k51 m50 m51
  have ho7 := other_spoil (us, ds) true i a 1
  refine (net_Spoil _ (us, ds) true i a 1 _ _ HO6.out (fun _ h => h) (by simp only; omega) (by simp only; omega) b20 b21 b30 b31 (fun l hl => Nat.le_trans (HRL.out l hl) (by omega))).mono ?_
  generalize spoilD (us, ds) true i a 1 = r7 at *
  obtain ⟨⟨u7, d7⟩, ok7⟩ := r7
  simp only [rowN, Bool.not_true, Bool.false_eq_true, if_false] at ho7
  cases ho7
  rintro e7 w7 ⟨v7, rfl, hn7, hb7⟩
  obtain ⟨A7, c7, B7, e7', rfl, -, -, -, -⟩ := id hn7
  have HN7 := Lib.hid (HN6.out.below hb7)
  have HP7 := Lib.hid (HP6.out.below hb7)
  have HQ7 := Lib.hid (net_rows hn7).2
  have HO7 := Lib.hid (HO6.out.keep hb7)
  have HB7 := Lib.hid (below_trans HB6.out hb7 HB6.out.size)
  have k70 := cell_keep hb7 k60
  have k71 := cell_keep hb7 k61
  have m70 := cell_keep hb7 m60
  have m71 := cell_keep hb7 m61
  have p70 := cell_keep hb7 p60
  have p71 := cell_keep hb7 p61
  have l7 := cell_lt k70
  clear k60 k61 m60 m61 p60 p61 hb7 hn7 HN6 HP6 HO6
  obtain ⟨W8, hW8⟩ : ∃ W8, W8 = w7.alloc (.cells #[.slice A7 u7.length c7, .slice B7 ds.length e7'] 24) := ⟨_, rfl⟩
  have hb8 : Below w7.heap.size w7 W8 := by rw [hW8]; exact (Below.refl _ _).alloc (Nat.le_refl _) _
  have q80 : W8.cell? ⟨w7.heap.size, 0, none⟩ = some (.slice A7 u7.length c7) := by rw [hW8]; exact cell_new _ _ _ 0
  have q81 : W8.cell? ⟨w7.heap.size, 1, none⟩ = some (.slice B7 ds.length e7') := by rw [hW8]; exact cell_new _ _ _ 1
  have k80 := cell_keep hb8 k70
  have k81 := cell_keep hb8 k71
  have m80 := cell_keep hb8 m70
  have m81 := cell_keep hb8 m71
  have p80 := cell_keep hb8 p70
  have p81 := cell_keep hb8 p71
  have HW8 := Lib.hid hW8
  have HN8 := Lib.hid (HN7.out.below hb8)
  have HP8 := Lib.hid (HP7.out.below hb8)
  have HQ8 := Lib.hid (HQ7.out.below hb8)
  have HO8 := Lib.hid (HO7.out.keep hb8)
  have HB8 := Lib.hid (below_trans HB7.out hb8 HB7.out.size)
  clear hW8 hb8 HN7 HP7 HQ7 HO7
  simp only
  go_wp2_with fail
  rw [← HW8.out]
  clear k70 k71 m70 m71 p70 p71
  refine (ref_Row false A B us.length ds.length c d _).mono ?_
  rintro e9 w9 ⟨rfl, hb9⟩
  simp only [pickV, Bool.false_eq_true, if_false]
  have LV := Lib.hid (net_rows (n := (us, ds)) (HO8.out.keep hb9)).2
  have HN9 := Lib.hid (HN8.out.below hb9)
  have HP9 := Lib.hid (HP8.out.below hb9)
  have HQ9 := Lib.hid (HQ8.out.below hb9)
  have HO9 := Lib.hid (HO8.out.keep hb9)
  have HB9 := Lib.hid (below_trans HB8.out hb9 HB8.out.size)
  have k90 := cell_keep hb9 k80
  have k91 := cell_keep hb9 k81
  have m90 := cell_keep hb9 m80
  have m91 := cell_keep hb9 m81
  have p90 := cell_keep hb9 p80
  have p91 := cell_keep hb9 p81
  have q90 := cell_keep hb9 q80
  have q91 := cell_keep hb9 q81
  clear k80 k81 m80 m81 p80 p81 q80 q81 hb9 HN8 HP8 HQ8 HO8
  go_wp2_with fail
  refine (ref_Row false A3 B3 u3.length ds.length c3 e3' _).mono ?_
  rintro e10 w10 ⟨rfl, hb10⟩
  simp only [pickV, Bool.false_eq_true, if_false]
  have HN10 := Lib.hid (HN9.out.below hb10)
  have HP10 := Lib.hid (HP9.out.below hb10)
  have HQ10 := Lib.hid (HQ9.out.below hb10)
  have HO10 := Lib.hid (HO9.out.keep hb10)
  have LV := Lib.hid (LV.out.below hb10)
  have HB10 := Lib.hid (below_trans HB9.out hb10 HB9.out.size)
  have k100 := cell_keep hb10 k90
  have k101 := cell_keep hb10 k91
  have m100 := cell_keep hb10 m90
  have m101 := cell_keep hb10 m91
  have p100 := cell_keep hb10 p90
  have p101 := cell_keep hb10 p91
  have q100 := cell_keep hb10 q90
  have q101 := cell_keep hb10 q91
  clear k90 k91 m90 m91 p90 p91 q90 q91 hb10 HN9 HP9 HQ9 HO9
  go_wp2_with fail
  refine (ref_Strings _ _ ds ds _ HN10.out LV.out (by omega) (by omega)).mono ?_
  rintro e11 w11 ⟨rfl, hb11⟩
  rw [same_self]
  have HN11 := Lib.hid (HN10.out.below hb11)
  have HP11 := Lib.hid (HP10.out.below hb11)
  have HQ11 := Lib.hid (HQ10.out.below hb11)
  have HO11 := Lib.hid (HO10.out.keep hb11)
  have LV := Lib.hid (LV.out.below hb11)
  have HB11 := Lib.hid (below_trans HB10.out hb11 HB10.out.size)
  have k110 := cell_keep hb11 k100
  have k111 := cell_keep hb11 k101
  have m110 := cell_keep hb11 m100
  have m111 := cell_keep hb11 m101
  have p110 := cell_keep hb11 p100
  have p111 := cell_keep hb11 p101
  have q110 := cell_keep hb11 q100
  have q111 := cell_keep hb11 q101
  clear k100 k101 m100 m101 p100 p101 q100 q101 hb11 HN10 HP10 HQ10 HO10
  go_wp2_with fail
  refine (ref_Row false A5 B5 u5.length ds.length c5 e5' _).mono ?_
  rintro e12 w12 ⟨rfl, hb12⟩
  simp only [pickV, Bool.false_eq_true, if_false]
  have HN12 := Lib.hid (HN11.out.below hb12)
  have HP12 := Lib.hid (HP11.out.below hb12)
  have HQ12 := Lib.hid (HQ11.out.below hb12)
  have HO12 := Lib.hid (HO11.out.keep hb12)
  have LV := Lib.hid (LV.out.below hb12)
  have HB12 := Lib.hid (below_trans HB11.out hb12 HB11.out.size)
  have k120 := cell_keep hb12 k110
  have k121 := cell_keep hb12 k111
  have m120 := cell_keep hb12 m110
  have m121 := cell_keep hb12 m111
  have p120 := cell_keep hb12 p110
  have p121 := cell_keep hb12 p111
  have q120 := cell_keep hb12 q110
  have q121 := cell_keep hb12 q111
  clear k110 k111 m110 m111 p110 p111 q110 q111 hb12 HN11 HP11 HQ11 HO11
  go_wp2_with fail
  refine (ref_Strings _ _ ds ds _ HP12.out LV.out (by omega) (by omega)).mono ?_
  rintro e13 w13 ⟨rfl, hb13⟩
  rw [same_self]
  have HN13 := Lib.hid (HN12.out.below hb13)
  have HP13 := Lib.hid (HP12.out.below hb13)
  have HQ13 := Lib.hid (HQ12.out.below hb13)
  have HO13 := Lib.hid (HO12.out.keep hb13)
  have LV := Lib.hid (LV.out.below hb13)
  have HB13 := Lib.hid (below_trans HB12.out hb13 HB12.out.size)
  have k130 := cell_keep hb13 k120
  have k131 := cell_keep hb13 k121
  have m130 := cell_keep hb13 m120
  have m131 := cell_keep hb13 m121
  have p130 := cell_keep hb13 p120
  have p131 := cell_keep hb13 p121
  have q130 := cell_keep hb13 q120
  have q131 := cell_keep hb13 q121
  clear k120 k121 m120 m121 p120 p121 q120 q121 hb13 HN12 HP12 HQ12 HO12
  go_wp2_with fail
  refine (ref_Row false A7 B7 u7.length ds.length c7 e7' _).mono ?_
  rintro e14 w14 ⟨rfl, hb14⟩
  simp only [pickV, Bool.false_eq_true, if_false]
  have HN14 := Lib.hid (HN13.out.below hb14)
  have HP14 := Lib.hid (HP13.out.below hb14)
  have HQ14 := Lib.hid (HQ13.out.below hb14)
  have HO14 := Lib.hid (HO13.out.keep hb14)
  have LV := Lib.hid (LV.out.below hb14)
  have HB14 := Lib.hid (below_trans HB13.out hb14 HB13.out.size)
  have k140 := cell_keep hb14 k130
  have k141 := cell_keep hb14 k131
  have m140 := cell_keep hb14 m130
  have m141 := cell_keep hb14 m131
  have p140 := cell_keep hb14 p130
  have p141 := cell_keep hb14 p131
  have q140 := cell_keep hb14 q130
  have q141 := cell_keep hb14 q131
  clear k130 k131 m130 m131 p130 p131 q130 q131 hb14 HN13 HP13 HQ13 HO13
  go_wp2_with fail
  refine (ref_Strings _ _ ds ds _ HQ14.out LV.out (by omega) (by omega)).mono ?_
  rintro e15 w15 ⟨rfl, hb15⟩
  rw [same_self]
  have HN15 := Lib.hid (HN14.out.below hb15)
  have HP15 := Lib.hid (HP14.out.below hb15)
  have HQ15 := Lib.hid (HQ14.out.below hb15)
  have HO15 := Lib.hid (HO14.out.keep hb15)
  have LV := Lib.hid (LV.out.below hb15)
  have HB15 := Lib.hid (below_trans HB14.out hb15 HB14.out.size)
  have k150 := cell_keep hb15 k140
  have k151 := cell_keep hb15 k141
  have m150 := cell_keep hb15 m140
  have m151 := cell_keep hb15 m141
  have p150 := cell_keep hb15 p140
  have p151 := cell_keep hb15 p141
  have q150 := cell_keep hb15 q140
  have q151 := cell_keep hb15 q141
  clear k140 k141 m140 m141 p140 p141 q140 q141 hb15 HN14 HP14 HQ14 HO14
  go_wp2_with fail
  have ho16 := other_send (us, ds) true s
  refine (net_Send _ (us, ds) true s _ _ HO15.out (fun _ h => h) (by simp only; omega) (by simp only; omega)).mono ?_
  generalize sendD (us, ds) true s = r16 at *
  obtain ⟨u16, d16⟩ := r16
  simp only [rowN, Bool.not_true, Bool.false_eq_true, if_false] at ho16
  cases ho16
  rintro e16 w16 ⟨v16, rfl, hn16, hb16⟩
  obtain ⟨A16, c16, B16, e16', rfl, -, -, -, -⟩ := id hn16
  have HS16 := Lib.hid (net_rows hn16).2
  have LV16 := Lib.hid (LV.out.below hb16)
  have HB16 := Lib.hid (below_trans HB15.out hb16 HB15.out.size)
  clear k150 k151 m150 m151 p150 p151 q150 q151 hb16 hn16 HN15 HP15 HQ15 HO15
  go_wp2_with fail
  refine (ref_Row false A16 B16 u16.length ds.length c16 e16' _).mono ?_
  rintro e17 w17 ⟨rfl, hb17⟩
  simp only [pickV, Bool.false_eq_true, if_false]
  have HS17 := Lib.hid (HS16.out.below hb17)
  have LV17 := Lib.hid (LV16.out.below hb17)
  have HB17 := Lib.hid (below_trans HB16.out hb17 HB16.out.size)
  clear hb17
  go_wp2_with fail
  refine (ref_Strings _ _ ds ds _ HS17.out LV17.out (by omega) (by omega)).mono ?_
  rintro e18 w18 ⟨rfl, hb18⟩
  rw [same_self]
  have HB18 := Lib.hid (below_trans HB17.out hb18 HB17.out.size)
  clear hb18
  go_wp2_with fail
  go_ret
  exact ⟨rfl, HB18.out⟩

end Go.Proofs.Ytmpiglciplpfhaa.netOther
