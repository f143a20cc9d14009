/- Proved: copyholdlaw19.NetSpoils returns true for every net, place and byte, and leaves them as they were: a text that is spoilt twice by the same is as it was; spoilt by 0 it is, too. No condition beyond the form's own reach. -/
import Derived.Test.YtmpiglciplpfhaaNetSpoilsP
import Derived.Test.YtmpiglciplpfhaaLaw
namespace Go.Proofs.Ytmpiglciplpfhaa.netSpoils
open Go.ChangeShapes Go.WideShapes Go.ChangeAt Go.RowKit Copyhold
open Go.ChangeMaps (open_string shut_string)
set_option linter.unusedVariables false

set_option maxRecDepth 100000 in
set_option maxHeartbeats 4000000 in
theorem walk (w : World) (uv : Value) (us : List (List UInt8)) (hu : Row w uv (us.map strV)) (zu : us.length ≤ 8796093022207 ∧ ∀ l ∈ us, l.length ≤ 140737488351232) (dv : Value) (ds : List (List UInt8)) (hd : Row w dv (ds.map strV)) (zd : ds.length ≤ 8796093022207 ∧ ∀ l ∈ ds, l.length ≤ 140737488351232)
    (up : Bool) (i : Int) (w2 : (Lit.int .i64 i).wf = true) (a : Int) (w3 : (Lit.int .i64 a).wf = true) (y : Int) (w4 : (Lit.int .u8 y).wf = true) :
    Calls Try.prog 4 #[.agg #[uv, dv, .bool up, .int .i64 i, .int .i64 a, .int .u8 y]] w fun e w' => e = .returned (.bool true) ∧ Below w.heap.size w w' := by
  have b2 : -9223372036854775808 ≤ i ∧ i ≤ 9223372036854775807 := by simpa [Lit.wf, IntKind.min, IntKind.max, IntKind.signed, IntKind.bits] using w2
  have b3 : -9223372036854775808 ≤ a ∧ a ≤ 9223372036854775807 := by simpa [Lit.wf, IntKind.min, IntKind.max, IntKind.signed, IntKind.bits] using w3
  have b4 : 0 ≤ y ∧ y ≤ 255 := by simpa [Lit.wf, IntKind.min, IntKind.max, IntKind.signed, IntKind.bits] using w4
  obtain ⟨b20, b21⟩ := b2
  obtain ⟨b30, b31⟩ := b3
  obtain ⟨yb, hyb⟩ : ∃ yb : UInt8, y = (yb.toNat : Int) := ⟨UInt8.ofNat y.toNat, by rw [UInt8.toNat_ofNat_of_lt' (by show y.toNat < 256; omega)]; omega⟩
  subst hyb
  clear w2 w3 w4 b4
  obtain ⟨A, c, rfl⟩ := hu.shape
  obtain ⟨B, d, rfl⟩ := hd.shape
  rw [List.length_map] at hu hd ⊢
  rw [List.length_map]
  have hn0 : IsNet (· < w.heap.size) w (.agg #[.slice A us.length c, .slice B ds.length d]) (us, ds) := ⟨A, c, B, d, rfl, hu, hd, hu.lies, hd.lies⟩
  obtain ⟨m, e, hf1, hf2, ⟨f, hf3⟩, hf4, hf5, hf6, hf7⟩ := facts (us, ds) up i a yb
  have hrl : ∀ l ∈ rowN (us, ds) up, l.length ≤ 140737488351232 := by cases up; exact zd.2; exact zu.2
  have hml := hf7 hrl
  have hm1 : m.1.length ≤ 8796093022207 := by rw [hf5]; exact zu.1
  have hm2 : m.2.length ≤ 8796093022207 := by rw [hf6]; exact zd.1
  obtain ⟨zu1, _⟩ := zu
  obtain ⟨zd1, _⟩ := zd
  obtain ⟨W0, hW0⟩ : ∃ W0, W0 = (w.alloc (.cells #[.slice A us.length c, .slice B ds.length d, .bool up, .int .i64 i, .int .i64 a, .int .u8 (yb.toNat : Int)] 39)).alloc (.cells #[.slice A us.length c, .slice B ds.length d] 24) := ⟨_, rfl⟩
  have hb0 : Below w.heap.size w W0 := by rw [hW0]; exact ((Below.refl _ _).alloc (Nat.le_refl _) _).alloc (by simp) _
  have k0 : W0.cell? ⟨w.heap.size + 1, 0, none⟩ = some (.slice A us.length c) := by rw [hW0]; simp [go_sem]
  have k1 : W0.cell? ⟨w.heap.size + 1, 1, none⟩ = some (.slice B ds.length d) := by rw [hW0]; simp [go_sem]
  have HN0 := Lib.hid (hn0.keep hb0)
  have HB0 := Lib.hid hb0
  have HW0 := Lib.hid hW0
  have HF1 := Lib.hid hf1
  have HF2 := Lib.hid hf2
  have HF3 := Lib.hid hf3
  have HF4 := Lib.hid hf4
  have HML := Lib.hid hml
  have HRL := Lib.hid hrl
  have HSN := Lib.hid (sameN_iff (us, ds) (us, ds))
  clear hu hd hn0 hf1 hf2 hf3 hf4 hf5 hf6 hf7 hrl hml hW0 hb0
  go_enter Try.func4, Try.ntmps4
  go_wp2_with fail
  rw [← HW0.out]
  refine (law_shown _).mono ?_
  rintro e1 w1 ⟨rfl, hb1⟩
  have HN1 := Lib.hid (HN0.out.keep hb1)
  have HB1 := Lib.hid (below_trans HB0.out hb1 HB0.out.size)
  have k10 := cell_keep hb1 k0
  have k11 := cell_keep hb1 k1
  clear k0 k1 hb1 HN0
  go_wp2_with fail
  refine (ref_Few _ (us, ds) _ _ HN1.out (by simp only; omega) (by simp only; omega)).mono ?_
  rintro e2 w2 ⟨few, rfl, hb2⟩
  have HN2 := Lib.hid (HN1.out.keep hb2)
  have HB2 := Lib.hid (below_trans HB1.out hb2 HB1.out.size)
  have k20 := cell_keep hb2 k10
  have k21 := cell_keep hb2 k11
  clear k10 k11 hb2 HN1
  cases few
  · go_wp2_with fail
    go_ret
    exact ⟨rfl, HB2.out⟩
  · go_wp2_with fail
    refine (net_Spoil _ (us, ds) up i a yb _ _ HN2.out (fun _ h => h) (by simp only; omega) (by simp only; omega) b20 b21 b30 b31 (fun l hl => Nat.le_trans (HRL.out l hl) (by omega))).mono ?_
    rw [HF1.out]
    rintro e3 w3 ⟨v3, rfl, hn3, hb3⟩
    obtain ⟨A3, c3, B3, d3, rfl, -, -, -, -⟩ := id hn3
    have HN3 := Lib.hid hn3.trim
    have HO3 := Lib.hid (HN2.out.keep hb3)
    have HB3 := Lib.hid (below_trans HB2.out hb3 HB2.out.size)
    have k30 := cell_keep hb3 k20
    have k31 := cell_keep hb3 k21
    clear k20 k21 hb3 hn3 HN2
    go_wp2_with fail
    obtain ⟨W4, hW4⟩ : ∃ W4, W4 = w3.alloc (.cells #[.slice A3 m.1.length c3, .slice B3 m.2.length d3] 24) := ⟨_, rfl⟩
    have hb4 : Below w3.heap.size w3 W4 := by rw [hW4]; exact (Below.refl _ _).alloc (Nat.le_refl _) _
    have k40 := cell_keep hb4 k30
    have k41 := cell_keep hb4 k31
    have m40 : W4.cell? ⟨w3.heap.size, 0, none⟩ = some (.slice A3 m.1.length c3) := by rw [hW4]; exact cell_new _ _ _ 0
    have m41 : W4.cell? ⟨w3.heap.size, 1, none⟩ = some (.slice B3 m.2.length d3) := by rw [hW4]; exact cell_new _ _ _ 1
    rw [← hW4]
    have HN4 := Lib.hid (HN3.out.keep hb4)
    have HO4 := Lib.hid (HO3.out.keep hb4)
    have HB4 := Lib.hid (below_trans HB3.out hb4 HB3.out.size)
    clear hW4 hb4 k30 k31 HN3 HO3
    refine (net_Spoil _ m up i a yb _ _ HN4.out (fun _ h => h) (by omega) (by omega) b20 b21 b30 b31 (fun l hl => Nat.le_trans (HML.out l hl) (by omega))).mono ?_
    rw [HF2.out]
    rintro e5 w5 ⟨v5, rfl, hn5, hb5⟩
    obtain ⟨A5, c5, B5, d5, rfl, -, -, -, -⟩ := id hn5
    have HN5 := Lib.hid hn5.trim
    have HM5 := Lib.hid (HN4.out.keep hb5)
    have HO5 := Lib.hid (HO4.out.keep hb5)
    have HB5 := Lib.hid (below_trans HB4.out hb5 HB4.out.size)
    have k50 := cell_keep hb5 k40
    have k51 := cell_keep hb5 k41
    have m50 := cell_keep hb5 m40
    have m51 := cell_keep hb5 m41
    clear k40 k41 m40 m41 hb5 hn5 HN4 HO4
    simp only at HN5 ⊢
    have l5 := cell_lt k50
    go_wp2_with fail
    obtain ⟨W6, hW6⟩ : ∃ W6, W6 = w5.alloc (.cells #[.slice A5 us.length c5, .slice B5 ds.length d5] 24) := ⟨_, rfl⟩
    have hb6 : Below w5.heap.size w5 W6 := by rw [hW6]; exact (Below.refl _ _).alloc (Nat.le_refl _) _
    have k60 := cell_keep hb6 k50
    have k61 := cell_keep hb6 k51
    have m60 := cell_keep hb6 m50
    have m61 := cell_keep hb6 m51
    have p60 : W6.cell? ⟨w5.heap.size, 0, none⟩ = some (.slice A5 us.length c5) := by rw [hW6]; exact cell_new _ _ _ 0
    have p61 : W6.cell? ⟨w5.heap.size, 1, none⟩ = some (.slice B5 ds.length d5) := by rw [hW6]; exact cell_new _ _ _ 1
    rw [← hW6]
    have HN6 := Lib.hid (HN5.out.keep hb6)
    have HM6 := Lib.hid (HM5.out.keep hb6)
    have HO6 := Lib.hid (HO5.out.keep hb6)
    have HB6 := Lib.hid (below_trans HB5.out hb6 HB5.out.size)
    clear hW6 hb6 k50 k51 m50 m51 HN5 HM5 HO5
    refine (net_Spoil _ (us, ds) up i a 0 _ _ HO6.out (fun _ h => h) (by simp only; omega) (by simp only; omega) b20 b21 b30 b31 (fun l hl => Nat.le_trans (HRL.out l hl) (by omega))).mono ?_
    rw [HF3.out]
    rintro e7 w7 ⟨v7, rfl, hn7, hb7⟩
    obtain ⟨A7, c7, B7, d7, rfl, -, -, -, -⟩ := id hn7
    have HN7 := Lib.hid (HN6.out.keep hb7)
    have HM7 := Lib.hid (HM6.out.keep hb7)
    have HO7 := Lib.hid (HO6.out.keep hb7)
    have HZ7 := Lib.hid hn7.trim
    have HB7 := Lib.hid (below_trans HB6.out hb7 HB6.out.size)
    have k70 := cell_keep hb7 k60
    have k71 := cell_keep hb7 k61
    have m70 := cell_keep hb7 m60
    have m71 := cell_keep hb7 m61
    have p70 := cell_keep hb7 p60
    have p71 := cell_keep hb7 p61
    clear k60 k61 m60 m61 p60 p61 hb7 hn7 HN6 HM6 HO6
    simp only at HZ7 ⊢
    obtain ⟨W8, hW8⟩ : ∃ W8, W8 = w7.alloc (.cells #[.slice A7 us.length c7, .slice B7 ds.length d7] 24) := ⟨_, rfl⟩
    have hb8 : Below w7.heap.size w7 W8 := by rw [hW8]; exact (Below.refl _ _).alloc (Nat.le_refl _) _
    have k80 := cell_keep hb8 k70
    have k81 := cell_keep hb8 k71
    have m80 := cell_keep hb8 m70
    have m81 := cell_keep hb8 m71
    have p80 := cell_keep hb8 p70
    have p81 := cell_keep hb8 p71
    have q80 : W8.cell? ⟨w7.heap.size, 0, none⟩ = some (.slice A7 us.length c7) := by rw [hW8]; exact cell_new _ _ _ 0
    have q81 : W8.cell? ⟨w7.heap.size, 1, none⟩ = some (.slice B7 ds.length d7) := by rw [hW8]; exact cell_new _ _ _ 1
    have HN8 := Lib.hid (HN7.out.keep hb8)
    have HM8 := Lib.hid (HM7.out.keep hb8)
    have HO8 := Lib.hid (HO7.out.keep hb8)
    have HZ8 := Lib.hid (HZ7.out.keep hb8)
    have HB8 := Lib.hid (below_trans HB7.out hb8 HB7.out.size)
    have HW8 := Lib.hid hW8
    have l7 := cell_lt k70
    have l7' := cell_lt p70
    clear hW8 hb8 HN7 HM7 HO7 HZ7
    go_wp2_with fail
    rw [← HW8.out]
    clear k70 k71 m70 m71 p70 p71
    refine (ref_SameN _ _ (us, ds) (us, ds) _ _ _ HN8.out HO8.out (by simp only; omega) (by simp only; omega) (by simp only; omega) (by simp only; omega)).mono ?_
    rintro e9 w9 ⟨rfl, hb9⟩
    have HM9 := Lib.hid (HM8.out.keep hb9)
    have HO9 := Lib.hid (HO8.out.keep hb9)
    have HZ9 := Lib.hid (HZ8.out.keep hb9)
    have HB9 := Lib.hid (below_trans HB8.out hb9 HB8.out.size)
    have k90 := cell_keep hb9 k80
    have k91 := cell_keep hb9 k81
    have m90 := cell_keep hb9 m80
    have m91 := cell_keep hb9 m81
    have q90 := cell_keep hb9 q80
    have q91 := cell_keep hb9 q81
    rw [show sameN (us, ds) (us, ds) = true from by rw [HSN.out]; simp]
    clear k80 k81 m80 m81 p80 p81 q80 q81 hb9 HN8 HM8 HO8 HZ8
    go_wp2_with fail
    refine (ref_SameN _ _ (us, ds) (us, ds) _ _ _ HZ9.out HO9.out (by simp only; omega) (by simp only; omega) (by simp only; omega) (by simp only; omega)).mono ?_
    rintro e10 w10 ⟨rfl, hb10⟩
    have HM10 := Lib.hid (HM9.out.keep hb10)
    have HO10 := Lib.hid (HO9.out.keep hb10)
    have HB10 := Lib.hid (below_trans HB9.out hb10 HB9.out.size)
    have k100 := cell_keep hb10 k90
    have k101 := cell_keep hb10 k91
    have m100 := cell_keep hb10 m90
    have m101 := cell_keep hb10 m91
    rw [show sameN (us, ds) (us, ds) = true from by rw [HSN.out]; simp]
    clear k90 k91 m90 m91 q90 q91 hb10 HM9 HO9 HZ9
    by_cases hy0 : yb = 0
    · subst hy0
      have h4 : (e && decide ((0 : UInt8) ≠ 0)) = !sameN m (us, ds) := HF4.out
      have h5 : sameN m (us, ds) = true := by simpa using h4.symm
      clear h4
      have H5 := Lib.hid h5
      clear h5
      cases e
      all_goals
        go_wp2_with fail
        refine (ref_SameN _ _ m (us, ds) _ _ _ HM10.out HO10.out (by omega) (by omega) (by simp only; omega) (by simp only; omega)).mono ?_
        rintro e11 w11 ⟨rfl, hb11⟩
        have HB11 := Lib.hid (below_trans HB10.out hb11 HB10.out.size)
        rw [H5.out]
        clear hb11
        go_wp2_with fail
        go_ret
        exact ⟨rfl, HB11.out⟩
    · have h4 : e = !sameN m (us, ds) := by have := HF4.out; rwa [decide_eq_true hy0, Bool.and_true] at this
      have hyn : 0 < yb.toNat := by
        rcases Nat.eq_zero_or_pos yb.toNat with h | h
        · exact absurd (UInt8.toNat_inj.1 h) hy0
        · exact h
      have hyq : ((yb.toNat : Int) != 0) = true := by rw [bne_iff_ne]; omega
      have H4 := Lib.hid h4
      clear h4 hy0
      cases e
      all_goals
        go_wp2_with fail
        refine (ref_SameN _ _ m (us, ds) _ _ _ HM10.out HO10.out (by omega) (by omega) (by simp only; omega) (by simp only; omega)).mono ?_
        rintro e11 w11 ⟨rfl, hb11⟩
        have HB11 := Lib.hid (below_trans HB10.out hb11 HB10.out.size)
        have h5 := H4.out
        generalize sameN m (us, ds) = z at *
        cases z
        all_goals
          first
          | (exfalso; simp at h5; done)
          | (clear h5 hb11
             go_wp2_with fail
             go_ret
             exact ⟨rfl, HB11.out⟩)

theorem own : ownKnob Try.prog.godebug = none := by kernel_rfl
theorem laidOut : laidOutB Try.prog = true := by kernel_rfl
theorem cellscopyhold_copyholdlaw19_NetSpoilsIn : Try.prog.cellsOf 39 = 6 := by kernel_rfl
theorem cellscopyhold_api_Net : Try.prog.cellsOf 24 = 2 := by kernel_rfl
theorem cells__string : Try.prog.cellsOf 22 = 1 := by kernel_rfl
theorem cellsbool : Try.prog.cellsOf 4 = 1 := by kernel_rfl
theorem cellsint : Try.prog.cellsOf 3 = 1 := by kernel_rfl
theorem cellsuint8 : Try.prog.cellsOf 5 = 1 := by kernel_rfl

set_option maxRecDepth 100000 in
set_option maxHeartbeats 1000000 in
theorem lifted (os : Os) (started : os.Started) (H : Type) (enc : TypeId × Value → H) :
    ReturnsInHanded {} Try.checked os 4 .any (Rows.netSpoilsSpec.pre6 enc Try.prog Try.f4 Rows.netSpoilsRow.domain false) (Rows.netSpoilsSpec.post enc Try.prog Try.f4 false true false false) := by
  refine returnsInHanded_of_change_sized (C := Try.checked) own started (by kernel_rfl) Try.func4
    (ChangeSpec.witness6 (enc := enc) (C := Try.checked) false ⟨#[], #[.agg #[.slice none 0 0, .slice none 0 0, .bool false, .int .i64 0, .int .i64 0, .int .u8 0]], []⟩ 8 (by kernel_rfl) (by kernel_rfl) (by kernel_rfl) (by kernel_rfl)) ?_
  intro W base args ds gs before hval0 hW hcnd hsz0 _
  have hsz : (DataW.weightsEach Try.prog (Try.f4.params.toList ++ []) (ds ++ gs)).all (· ≤ reachBytes) = true := hsz0
  clear hsz0
  have hval : ∀ (j : Nat) t v, Try.f4.params[j]? = some t → args[j]? = some v → Value.okWide Try.prog W .any base t v := hval0
  have hW' := hW
  have hlt := hW.lt
  obtain ⟨p, q, hA0, hV, rfl, hfz, hnd⟩ := hW
  have hA : DataW.TrodAll enc Try.prog W 0 (fun _ => true) true Try.f4.params.toList args.toList ds p := hA0
  rw [Try.params4] at hA hval
  obtain ⟨v0, vs0, d0, ds0, p0, q0, hargs, rfl, rfl, h0, r0⟩ := trodAll_cons hA
  obtain ⟨rfl, rfl, rfl⟩ := trodAll_nil r0
  obtain rfl : args = #[v0] := by cases args; simp_all
  obtain ⟨rfl, rfl⟩ := trodVars_none hV
  obtain ⟨cs0, rfl, hcz0⟩ := okWide_struct Try.underlying39 (hval 0 39 v0 rfl rfl)
  rw [cellscopyhold_copyholdlaw19_NetSpoilsIn] at hcz0
  obtain ⟨c0_0_0, c0_0_1, c0_1, c0_2, c0_3, c0_4, rfl⟩ := array6_of hcz0
  obtain ⟨fuel0, hf0⟩ := h0
  obtain ⟨xs0, m0, _, hx0, _, hlen0, hfl0⟩ := DataW.trod_struct Try.underlying39 hf0
  obtain ⟨y0_0, y0_1, y0_2, y0_3, y0_4, rfl⟩ := list5 hlen0
  have g0_0 : DataW.trod enc Try.prog W 0 (fun _ => true) true m0 24 [c0_0_0, c0_0_1] = some y0_0 := by have h := hfl0 0 _ rfl; simpa [Value.cells, cellscopyhold_api_Net] using h
  have g0_1 : DataW.trod enc Try.prog W 0 (fun _ => true) true m0 4 [c0_1] = some y0_1 := by have h := hfl0 1 _ rfl; simpa [Value.cells, cellsbool] using h
  have g0_2 : DataW.trod enc Try.prog W 0 (fun _ => true) true m0 3 [c0_2] = some y0_2 := by have h := hfl0 2 _ rfl; simpa [Value.cells, cellsint] using h
  have g0_3 : DataW.trod enc Try.prog W 0 (fun _ => true) true m0 3 [c0_3] = some y0_3 := by have h := hfl0 3 _ rfl; simpa [Value.cells, cellsint] using h
  have g0_4 : DataW.trod enc Try.prog W 0 (fun _ => true) true m0 5 [c0_4] = some y0_4 := by have h := hfl0 4 _ rfl; simpa [Value.cells, cellsuint8] using h
  simp only [Prod.mk.injEq] at hx0
  obtain ⟨rfl, hp0⟩ := hx0
  subst hp0
  obtain ⟨xs0_0, m0_0, _, hx0_0, _, hlen0_0, hfl0_0⟩ := DataW.trod_struct Try.underlying24 g0_0
  obtain ⟨y0_0_0, y0_0_1, rfl⟩ := list2 hlen0_0
  have g0_0_0 : DataW.trod enc Try.prog W 0 (fun _ => true) true m0_0 22 [c0_0_0] = some y0_0_0 := by have h := hfl0_0 0 _ rfl; simpa [Value.cells, cells__string] using h
  have g0_0_1 : DataW.trod enc Try.prog W 0 (fun _ => true) true m0_0 22 [c0_0_1] = some y0_0_1 := by have h := hfl0_0 1 _ rfl; simpa [Value.cells, cells__string] using h
  subst hx0_0
  have hw0_0_0 : ∀ n ∈ DataW.weights Try.prog 22 y0_0_0.1, n ≤ 140737488351232 := fun n hn => sized_deep hsz (by rw [Try.params4]; simp [DataW.weightsEach, DataW.weights, Try.underlying39, Try.underlying24, hn])
  obtain ⟨u0_0_0, a0_0_0, ev0_0_0, w0_0_0, e0_0_0⟩ := open_texts_at Try.underlying22 Try.underlying9 (by kernel_rfl) g0_0_0 (fun x hx => hlt x (by simp [hx]))
  obtain rfl : c0_0_0 = _ := by simpa using ev0_0_0
  have z0_0_0 := texts_sized Try.underlying22 (by kernel_rfl) e0_0_0 hw0_0_0
  have hw0_0_1 : ∀ n ∈ DataW.weights Try.prog 22 y0_0_1.1, n ≤ 140737488351232 := fun n hn => sized_deep hsz (by rw [Try.params4]; simp [DataW.weightsEach, DataW.weights, Try.underlying39, Try.underlying24, hn])
  obtain ⟨u0_0_1, a0_0_1, ev0_0_1, w0_0_1, e0_0_1⟩ := open_texts_at Try.underlying22 Try.underlying9 (by kernel_rfl) g0_0_1 (fun x hx => hlt x (by simp [hx]))
  obtain rfl : c0_0_1 = _ := by simpa using ev0_0_1
  have z0_0_1 := texts_sized Try.underlying22 (by kernel_rfl) e0_0_1 hw0_0_1
  obtain ⟨a0_1, ev0_1, ey0_1⟩ := DataW.trod_bool Try.underlying4 g0_1
  obtain rfl : c0_1 = _ := by simpa using ev0_1
  subst ey0_1
  obtain ⟨a0_2, ev0_2, ey0_2, w0_2⟩ := DataW.trod_int Try.underlying3 g0_2
  obtain rfl : c0_2 = _ := by simpa using ev0_2
  subst ey0_2
  obtain ⟨a0_3, ev0_3, ey0_3, w0_3⟩ := DataW.trod_int Try.underlying3 g0_3
  obtain rfl : c0_3 = _ := by simpa using ev0_3
  subst ey0_3
  obtain ⟨a0_4, ev0_4, ey0_4, w0_4⟩ := DataW.trod_int Try.underlying5 g0_4
  obtain rfl : c0_4 = _ := by simpa using ev0_4
  subst ey0_4
  refine (walk W c0_0_0 a0_0_0 w0_0_0 z0_0_0 c0_0_1 a0_0_1 w0_0_1 z0_0_1 a0_1 a0_2 w0_2 a0_3 w0_3 a0_4 w0_4).mono fun e W' ⟨he, hg⟩ => ?_
  subst he
  exact ⟨_, rfl, Copyhold.law_post laidOut (by kernel_rfl) (by kernel_rfl) Try.underlying4 rfl rfl rfl rfl hW' hg⟩

theorem over : Rows.netSpoilsRow.holds Try.pinned (OpenSpec.ofChange Rows.netSpoilsSpec) :=
  OpenClaim.holds_of_wide 4 Try.f4 rfl rfl rfl rfl rfl rfl rfl ⟨rfl, rfl, rfl, rfl, rfl⟩ rfl rfl rfl rfl rfl (by kernel_rfl) Try.func4 (by kernel_rfl)
    (of_decide_eq_true (by kernel_rfl)) (by unfold Func.isWrapper; first | (rw [if_pos (by decide +kernel)]; kernel_rfl) | (rw [if_neg (by decide +kernel)]; exact ⟨rfl, rfl⟩))
    (fun os started H enc _ => lifted os started H enc)

theorem proved : Rows.NetSpoilsSaid :=
  over
end Go.Proofs.Ytmpiglciplpfhaa.netSpoils
