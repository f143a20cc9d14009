/- The walk of NetOrder: it returns true for every net, and leaves it as it was: texts that are taken from the first on come in the order in which they stood; then nothing is there. No condition beyond the form's own reach. -/
import Derived.Test.YtmpiglciplpfhaaNetLaw
import Derived.Deep.RegionHeld3
import Derived.Test.YtmpiglciplpfhaaLaw
namespace Go.Proofs.Ytmpiglciplpfhaa.netOrder
open Go.ChangeShapes Go.WideShapes Go.ChangeAt Go.RowKit Copyhold
open Go.ChangeMaps (open_string shut_string)
set_option linter.unusedVariables false

set_option maxRecDepth 100000 in
set_option maxHeartbeats 4000000 in
theorem walk_up (w : World) (A : Option Addr) (c : Nat) (us : List (List UInt8)) (B : Option Addr) (d : Nat) (ds : List (List UInt8)) (hu : Row w (.slice A us.length c) (us.map strV)) (hd : Row w (.slice B ds.length d) (ds.map strV)) (zu : us.length ≤ 8796093022207) (zd : ds.length ≤ 8796093022207) :
    Calls Try.prog 5 #[.agg #[.slice A us.length c, .slice B ds.length d], .bool true] w fun e w' => e = .returned (.bool true) ∧ Below w.heap.size w w' := by
  have hn0 : IsNet (· < w.heap.size) w (.agg #[.slice A us.length c, .slice B ds.length d]) (us, ds) := ⟨A, c, B, d, rfl, hu, hd, hu.lies, hd.lies⟩
  obtain ⟨W0, hW0⟩ : ∃ W0, W0 = w.alloc (.cells #[.slice A us.length c, .slice B ds.length d] 24) := ⟨_, rfl⟩
  have hb0 : Below w.heap.size w W0 := by rw [hW0]; exact (Below.refl _ _).alloc (Nat.le_refl _) _
  have k0 : W0.cell? ⟨w.heap.size, 0, none⟩ = some (.slice A us.length c) := by rw [hW0]; exact cell_new _ _ _ 0
  have k1 : W0.cell? ⟨w.heap.size, 1, none⟩ = some (.slice B ds.length d) := by rw [hW0]; exact cell_new _ _ _ 1
  have HN0 := Lib.hid (hn0.keep hb0)
  have HB0 := Lib.hid hb0
  have HW0 := Lib.hid hW0
  clear hu hd hn0 hW0 hb0
  go_enter Try.func5, Try.ntmps5
  go_wp2_with fail
  rw [← HW0.out]
  refine (law_shown _).mono ?_
  rintro e1 w1 ⟨rfl, hb1⟩
  have Hrest' := Lib.hid (HN0.out.keep hb1)
  have HB1 := Lib.hid (below_trans HB0.out hb1 HB0.out.size)
  have k10 := cell_keep hb1 k0
  have k11 := cell_keep hb1 k1
  clear k0 k1 hb1 HN0
  go_wp2_with fail
  refine (ref_Few _ (us, ds) _ _ Hrest'.out (by simp only; omega) (by simp only; omega)).mono ?_
  rintro e2 w2 ⟨few, rfl, hb2⟩
  have Hds := Lib.hid (Hrest'.out.keep hb2)
  have HB2 := Lib.hid (below_trans HB1.out hb2 HB1.out.size)
  have k20 := cell_keep hb2 k10
  have k21 := cell_keep hb2 k11
  clear k10 k11 hb2 Hrest'
  cases few
  · go_wp2_with fail
    go_ret
    exact ⟨rfl, HB2.out⟩
  rcases (show 100 < us.length ∨ us.length ≤ 100 ∧ 100 < ds.length ∨ us.length ≤ 100 ∧ ds.length ≤ 100 from by omega) with hl | ⟨hl, hl'⟩ | ⟨hl, hl'⟩
  · go_wp2_with fail
    go_ret
    exact ⟨rfl, HB2.out⟩
  · go_wp2_with fail
    go_ret
    exact ⟨rfl, HB2.out⟩
  go_wp2_with fail
  refine (ref_Row true A B us.length ds.length c d _).mono ?_
  rintro e3 w3 ⟨rfl, hb3⟩
  simp only [pickV, if_true]
  have HN3 := Lib.hid (Hds.out.keep hb3)
  have HB3 := Lib.hid (below_trans HB2.out hb3 HB2.out.size)
  have k30 := cell_keep hb3 k20
  have k31 := cell_keep hb3 k21
  clear k20 k21 hb3 Hds
  obtain ⟨W4, hW4⟩ : ∃ W4, W4 = w3.alloc (.cells #[.slice A us.length c, .slice B ds.length d] 24) := ⟨_, rfl⟩
  have hb4 : Below w3.heap.size w3 W4 := by rw [hW4]; exact (Below.refl _ _).alloc (Nat.le_refl _) _
  have k40 := cell_keep hb4 k30
  have k41 := cell_keep hb4 k31
  have m40 : W4.cell? ⟨w3.heap.size, 0, none⟩ = some (.slice A us.length c) := by rw [hW4]; exact cell_new _ _ _ 0
  have m41 : W4.cell? ⟨w3.heap.size, 1, none⟩ = some (.slice B ds.length d) := by rw [hW4]; exact cell_new _ _ _ 1
  have f40 : W4.frozen? ⟨w3.heap.size, 0, none⟩ = false := by rw [hW4]; simp [go_sem]
  have f41 : W4.frozen? ⟨w3.heap.size, 1, none⟩ = false := by rw [hW4]; simp [go_sem]
  have hs4 : W4.heap.size = w3.heap.size + 1 := by rw [hW4]; simp
  have l3 := cell_lt k30
  have HR := Lib.hid (show ∃ A' c' B' d', (Value.agg #[.slice A us.length c, .slice B ds.length d]) = .agg #[.slice A' us.length c', .slice B' ds.length d'] ∧ Row w3 (.slice A' us.length c') (us.map strV) ∧ Row w3 (.slice B' ds.length d') (ds.map strV) from by
    obtain ⟨A', c', B', d', he, h1, h2, _, _⟩ := HN3.out
    exact ⟨A', c', B', d', he, h1, h2⟩)
  obtain ⟨A', c', B', d', he, hru, hrd⟩ := HR.out
  simp only [Value.agg.injEq, Array.mk.injEq, List.cons.injEq, Value.slice.injEq, and_true, true_and] at he
  obtain ⟨⟨rfl, rfl⟩, rfl, rfl⟩ := he
  have HRU := Lib.hid hru
  have HRD := Lib.hid hrd
  have HW4 := Lib.hid hW4
  have HB4 := Lib.hid (below_trans HB3.out hb4 HB3.out.size)
  have HBW4 := Lib.hid hb4
  have HN4 := Lib.hid (HN3.out.below (D' := fun b => b ≠ w3.heap.size) hb4 (fun b h => by omega))
  have HG := Lib.hid (show w.heap.size ≤ w3.heap.size from by have := HB3.out.size; omega)
  clear HR hru hrd hW4 hb4
  go_wp2_with fail
  rw [← HW4.out]
  go_loopw [8] (fun si wr => ∃ (k : Nat) (rest : List (List UInt8)) (A1 : Option Addr) (c1 : Nat) (B1 : Option Addr) (d1 : Nat), si = .int .i64 k ∧ k ≤ us.length ∧ rest = us.drop k ∧
      IsNet (fun b => b ≠ w3.heap.size) wr (.agg #[.slice A1 rest.length c1, .slice B1 ds.length d1]) (rest, ds) ∧
      wr.cell? ⟨w3.heap.size, 0, none⟩ = some (.slice A1 rest.length c1) ∧ wr.cell? ⟨w3.heap.size, 1, none⟩ = some (.slice B1 ds.length d1) ∧
      wr.frozen? ⟨w3.heap.size, 0, none⟩ = false ∧ wr.frozen? ⟨w3.heap.size, 1, none⟩ = false ∧
      Below w3.heap.size w3 wr ∧ w3.heap.size < wr.heap.size) (fun si _ => us.length - (intOf si).toNat)
  case atStart => exact ⟨0, us, A, c, B, d, rfl, Nat.zero_le _, rfl, HN4.out, m40, m41, f40, f41, HBW4.out, by rw [hs4]; omega⟩
  case round =>
    obtain ⟨k, rest, A1, c1, B1, d1, rfl, hk, hrest, hnk, g0, g1, p0, p1, hbk, hsk⟩ := hrel
    have HNK := Lib.hid hnk.trimD
    have HBK := Lib.hid hbk
    have HREST := Lib.hid hrest
    have k50 := cell_keep hbk k30
    have k51 := cell_keep hbk k31
    have hrl : rest.length ≤ 100 := by rw [hrest, List.length_drop]; omega
    clear hnk hbk k40 k41 m40 m41 f40 f41 hrest
    by_cases hlt : k < us.length
    · have hget : (rowN (rest, ds) true)[0]? = some (us[k]'hlt) := by
        simp only [rowN, if_true]
        rw [HREST.out, List.getElem?_drop, Nat.add_zero, List.getElem?_eq_getElem hlt]
      obtain ⟨rest', hrest'⟩ : ∃ rest', rest' = rest.tail := ⟨_, rfl⟩
      have hnew : setN (rest, ds) true ((rowN (rest, ds) true).eraseIdx 0) = (rest', ds) := by
        rw [hrest']
        simp [rowN, setN]
      have hr2 : rest' = us.drop (k + 1) := by rw [hrest', HREST.out, List.tail_drop]
      have HNEW := Lib.hid hnew
      have HGET := Lib.hid hget
      have HR2 := Lib.hid hr2
      obtain ⟨b, off, rfl, hbb, hlen, hcl⟩ := (HRU.out).at k (x := strV (us[k]'hlt)) (by simp [hlt])
      have hcl := hcl k (strV (us[k]'hlt)) (by simp [hlt])
      have HCL := Lib.hid hcl
      clear hget hnew hcl hrest' hr2
      generalize hx : (us[k]'hlt) = x at *
      clear hx
      go_wp2_with fail
      refine (net_Take_ok _ (rest, ds) true 0 x _ _ HNK.out (fun b hb => hb.2) (by simp only; omega) (by simp only; omega) HGET.out).mono ?_
      rw [HNEW.out]
      rintro e6 w6 ⟨v6, rfl, hn6, hb6⟩
      obtain ⟨A6, c6, B6, d6, rfl, -, -, -, -⟩ := id hn6
      have hs6 := hb6.size
      have q0 := cell_keep hb6 g0
      have q1 := cell_keep hb6 g1
      have r0 := (bcell hb6).2 w3.heap.size 0 hsk
      have r1 := (bcell hb6).2 w3.heap.size 1 hsk
      rw [p0] at r0
      rw [p1] at r1
      have hcl6 : w6.cell? ⟨b, off + k, none⟩ = some (.string ⟨x.toArray⟩) := cell_keep hb6 (cell_keep HBK.out HCL.out)
      have lb := cell_lt hcl6
      have HN6 := Lib.hid hn6
      have HB6 := Lib.hid (below_trans HBK.out hb6 HBK.out.size)
      clear g0 g1 p0 p1 hn6 hb6 k50 k51
      simp only at HN6 ⊢
      have lq := cell_lt q0
      have HP := Lib.hid (put2 (.slice A6 rest'.length c6) (.slice B6 ds.length d6) q0 q1)
      go_wp2_with fail
      go_roundw
      case rel =>
        obtain ⟨hp0, hp1, hpf, hps, hpz⟩ := HP.out
        refine ⟨k + 1, rest', A6, c6, B6, d6, by go_num, by omega, HR2.out, ?_, cell_alloc _ hp0, cell_alloc _ hp1, ?_, ?_, ?_, ?_⟩
        · refine HN6.out.frame (fun b hb hl => ?_) (by simp) (fun b hb => ?_)
          · have hne : b ≠ w3.heap.size := by rcases hb with h | h; exact h.1; omega
            rw [Below.heap_alloc _ _ _ (by rw [hps]; exact hl), hpf b hne]
          · rcases hb with h | h; exact h.1; omega
        · rw [World.frozen?_of_block (Below.heap_alloc _ _ _ (by rw [hps]; exact lq)), hpz, r0]
        · rw [World.frozen?_of_block (Below.heap_alloc _ _ _ (by rw [hps]; exact lq)), hpz, r1]
        · exact ((HB6.out.setCell (Nat.le_refl _) _).setCell (Nat.le_refl _) _).alloc (by rw [hps]; omega) _
        · rw [World.size_alloc, hps]; omega
      case measure => simp [intOf]; omega
    · have hr0 : rest = [] := by rw [HREST.out, List.drop_eq_nil_of_le (by omega)]
      have hno : (0 : Int) < 0 ∨ ((rowN (rest, ds) true).length : Int) ≤ 0 := .inr (by simp only [rowN, if_true]; rw [hr0]; simp)
      have HNO := Lib.hid hno
      have hrz : rest.length ≤ 0 := by rw [hr0]; simp
      clear hr0 hno
      go_wp2_with fail
      refine (net_Take_no _ (rest, ds) true 0 _ _ HNK.out (fun b hb => hb.2) (by simp only; omega) (by simp only; omega) (by omega) (by omega) HNO.out).mono ?_
      rintro e6 w6 ⟨v6, rfl, hn6, hb6⟩
      obtain ⟨A6, c6, B6, d6, rfl, -, -, -, -⟩ := id hn6
      have q0 := cell_keep hb6 g0
      have q1 := cell_keep hb6 g1
      have q2 := cell_keep hb6 k50
      have q3 := cell_keep hb6 k51
      have lq := cell_lt q0
      have lq2 := cell_lt q2
      have HB6 := Lib.hid (below_trans HB3.out (below_trans HBK.out hb6 (by omega)) HB3.out.size)
      clear g0 g1 p0 p1 hn6 hb6 k50 k51 k30 k31 HNK
      simp only
      go_wp2_with fail
      obtain ⟨W8, hW8⟩ : ∃ W8, W8 = w6.alloc (.cells #[.slice A6 rest.length c6, .slice B6 ds.length d6] 24) := ⟨_, rfl⟩
      have hb8 : Below w6.heap.size w6 W8 := by rw [hW8]; exact (Below.refl _ _).alloc (Nat.le_refl _) _
      have t0 := cell_keep hb8 q0
      have t1 := cell_keep hb8 q1
      have t2 := cell_keep hb8 q2
      have t3 := cell_keep hb8 q3
      have HB8 := Lib.hid (below_trans HB6.out hb8 HB6.out.size)
      rw [← hW8]
      have hle : w.heap.size ≤ W8.heap.size := HB8.out.size
      clear hW8 hb8 q0 q1 q2 q3 lq lq2
      have z1 : rest.length ≤ 8796093022208 := by omega
      have z2 : ds.length ≤ 8796093022208 := by omega
      have z3 : us.length ≤ 8796093022208 := by omega
      have z4 : ds.length ≤ 8796093022208 := by omega
      have hwr : IntKind.i64.wrap ((us.length : Int) + (ds.length : Int) - (us.length : Int)) = (rest.length : Int) + (ds.length : Int) := by
        rw [IntWalk.i64_in _ (by omega)]
        omega
      go_region_held3 (fun w' => w'.cell? ⟨w3.heap.size, 0, none⟩ = some (.slice A1 rest.length c1) ∧ w'.cell? ⟨w3.heap.size, 1, none⟩ = some (.slice B1 ds.length d1) ∧ w'.cell? ⟨w.heap.size, 0, none⟩ = some (.slice A us.length c) ∧ w'.cell? ⟨w.heap.size, 1, none⟩ = some (.slice B ds.length d)) (go_keep)
        (first | (go_at_call_of 15 (Value.agg #[.slice A1 rest.length c1, .slice B1 ds.length d1]); refine (net_Many_at A1 B1 rest.length ds.length c1 d1 _ z1 z2).mono ?_; rintro e w7 ⟨rfl, rfl⟩) | (go_at_call_of 15 (Value.agg #[.slice A us.length c, .slice B ds.length d]); refine (net_Many_at A B us.length ds.length c d _ z3 z4).mono ?_; rintro e w7 ⟨rfl, rfl⟩))
      all_goals
        clear hwr
        go_wp2_with fail
        go_ret
        refine ⟨ret_bool (by first | (simp; done) | (simp; rw [IntWalk.i64_in _ (by omega)]; omega)), ?_⟩
        exact ((HB8.out.alloc hle _).alloc (by simp; omega) _).drew

set_option maxRecDepth 100000 in
set_option maxHeartbeats 4000000 in
theorem walk_down (w : World) (A : Option Addr) (c : Nat) (us : List (List UInt8)) (B : Option Addr) (d : Nat) (ds : List (List UInt8)) (hu : Row w (.slice A us.length c) (us.map strV)) (hd : Row w (.slice B ds.length d) (ds.map strV)) (zu : us.length ≤ 8796093022207) (zd : ds.length ≤ 8796093022207) :
    Calls Try.prog 5 #[.agg #[.slice A us.length c, .slice B ds.length d], .bool false] w fun e w' => e = .returned (.bool true) ∧ Below w.heap.size w w' := by
  have hn0 : IsNet (· < w.heap.size) w (.agg #[.slice A us.length c, .slice B ds.length d]) (us, ds) := ⟨A, c, B, d, rfl, hu, hd, hu.lies, hd.lies⟩
  obtain ⟨W0, hW0⟩ : ∃ W0, W0 = w.alloc (.cells #[.slice A us.length c, .slice B ds.length d] 24) := ⟨_, rfl⟩
  have hb0 : Below w.heap.size w W0 := by rw [hW0]; exact (Below.refl _ _).alloc (Nat.le_refl _) _
  have k0 : W0.cell? ⟨w.heap.size, 0, none⟩ = some (.slice A us.length c) := by rw [hW0]; exact cell_new _ _ _ 0
  have k1 : W0.cell? ⟨w.heap.size, 1, none⟩ = some (.slice B ds.length d) := by rw [hW0]; exact cell_new _ _ _ 1
  have HN0 := Lib.hid (hn0.keep hb0)
  have HB0 := Lib.hid hb0
  have HW0 := Lib.hid hW0
  clear hu hd hn0 hW0 hb0
  go_enter Try.func5, Try.ntmps5
  go_wp2_with fail
  rw [← HW0.out]
  refine (law_shown _).mono ?_
  rintro e1 w1 ⟨rfl, hb1⟩
  have Hus := Lib.hid (HN0.out.keep hb1)
  have HB1 := Lib.hid (below_trans HB0.out hb1 HB0.out.size)
  have k10 := cell_keep hb1 k0
  have k11 := cell_keep hb1 k1
  clear k0 k1 hb1 HN0
  go_wp2_with fail
  refine (ref_Few _ (us, ds) _ _ Hus.out (by simp only; omega) (by simp only; omega)).mono ?_
  rintro e2 w2 ⟨few, rfl, hb2⟩
  have Hrest' := Lib.hid (Hus.out.keep hb2)
  have HB2 := Lib.hid (below_trans HB1.out hb2 HB1.out.size)
  have k20 := cell_keep hb2 k10
  have k21 := cell_keep hb2 k11
  clear k10 k11 hb2 Hus
  cases few
  · go_wp2_with fail
    go_ret
    exact ⟨rfl, HB2.out⟩
  rcases (show 100 < us.length ∨ us.length ≤ 100 ∧ 100 < ds.length ∨ us.length ≤ 100 ∧ ds.length ≤ 100 from by omega) with hl | ⟨hl, hl'⟩ | ⟨hl, hl'⟩
  · go_wp2_with fail
    go_ret
    exact ⟨rfl, HB2.out⟩
  · go_wp2_with fail
    go_ret
    exact ⟨rfl, HB2.out⟩
  go_wp2_with fail
  refine (ref_Row false A B us.length ds.length c d _).mono ?_
  rintro e3 w3 ⟨rfl, hb3⟩
  simp only [pickV, Bool.false_eq_true, if_false]
  have HN3 := Lib.hid (Hrest'.out.keep hb3)
  have HB3 := Lib.hid (below_trans HB2.out hb3 HB2.out.size)
  have k30 := cell_keep hb3 k20
  have k31 := cell_keep hb3 k21
  clear k20 k21 hb3 Hrest'
  obtain ⟨W4, hW4⟩ : ∃ W4, W4 = w3.alloc (.cells #[.slice A us.length c, .slice B ds.length d] 24) := ⟨_, rfl⟩
  have hb4 : Below w3.heap.size w3 W4 := by rw [hW4]; exact (Below.refl _ _).alloc (Nat.le_refl _) _
  have k40 := cell_keep hb4 k30
  have k41 := cell_keep hb4 k31
  have m40 : W4.cell? ⟨w3.heap.size, 0, none⟩ = some (.slice A us.length c) := by rw [hW4]; exact cell_new _ _ _ 0
  have m41 : W4.cell? ⟨w3.heap.size, 1, none⟩ = some (.slice B ds.length d) := by rw [hW4]; exact cell_new _ _ _ 1
  have f40 : W4.frozen? ⟨w3.heap.size, 0, none⟩ = false := by rw [hW4]; simp [go_sem]
  have f41 : W4.frozen? ⟨w3.heap.size, 1, none⟩ = false := by rw [hW4]; simp [go_sem]
  have hs4 : W4.heap.size = w3.heap.size + 1 := by rw [hW4]; simp
  have l3 := cell_lt k30
  have HR := Lib.hid (show ∃ A' c' B' d', (Value.agg #[.slice A us.length c, .slice B ds.length d]) = .agg #[.slice A' us.length c', .slice B' ds.length d'] ∧ Row w3 (.slice A' us.length c') (us.map strV) ∧ Row w3 (.slice B' ds.length d') (ds.map strV) from by
    obtain ⟨A', c', B', d', he, h1, h2, _, _⟩ := HN3.out
    exact ⟨A', c', B', d', he, h1, h2⟩)
  obtain ⟨A', c', B', d', he, hru, hrd⟩ := HR.out
  simp only [Value.agg.injEq, Array.mk.injEq, List.cons.injEq, Value.slice.injEq, and_true, true_and] at he
  obtain ⟨⟨rfl, rfl⟩, rfl, rfl⟩ := he
  have HRU := Lib.hid hru
  have HRD := Lib.hid hrd
  have HW4 := Lib.hid hW4
  have HB4 := Lib.hid (below_trans HB3.out hb4 HB3.out.size)
  have HBW4 := Lib.hid hb4
  have HN4 := Lib.hid (HN3.out.below (D' := fun b => b ≠ w3.heap.size) hb4 (fun b h => by omega))
  have HG := Lib.hid (show w.heap.size ≤ w3.heap.size from by have := HB3.out.size; omega)
  clear HR hru hrd hW4 hb4
  go_wp2_with fail
  rw [← HW4.out]
  go_loopw [8] (fun si wr => ∃ (k : Nat) (rest : List (List UInt8)) (A1 : Option Addr) (c1 : Nat) (B1 : Option Addr) (d1 : Nat), si = .int .i64 k ∧ k ≤ ds.length ∧ rest = ds.drop k ∧
      IsNet (fun b => b ≠ w3.heap.size) wr (.agg #[.slice A1 us.length c1, .slice B1 rest.length d1]) (us, rest) ∧
      wr.cell? ⟨w3.heap.size, 0, none⟩ = some (.slice A1 us.length c1) ∧ wr.cell? ⟨w3.heap.size, 1, none⟩ = some (.slice B1 rest.length d1) ∧
      wr.frozen? ⟨w3.heap.size, 0, none⟩ = false ∧ wr.frozen? ⟨w3.heap.size, 1, none⟩ = false ∧
      Below w3.heap.size w3 wr ∧ w3.heap.size < wr.heap.size) (fun si _ => ds.length - (intOf si).toNat)
  case atStart => exact ⟨0, ds, A, c, B, d, rfl, Nat.zero_le _, rfl, HN4.out, m40, m41, f40, f41, HBW4.out, by rw [hs4]; omega⟩
  case round =>
    obtain ⟨k, rest, A1, c1, B1, d1, rfl, hk, hrest, hnk, g0, g1, p0, p1, hbk, hsk⟩ := hrel
    have HNK := Lib.hid hnk.trimD
    have HBK := Lib.hid hbk
    have HREST := Lib.hid hrest
    have k50 := cell_keep hbk k30
    have k51 := cell_keep hbk k31
    have hrl : rest.length ≤ 100 := by rw [hrest, List.length_drop]; omega
    clear hnk hbk k40 k41 m40 m41 f40 f41 hrest
    by_cases hlt : k < ds.length
    · have hget : (rowN (us, rest) false)[0]? = some (ds[k]'hlt) := by
        simp only [rowN, Bool.false_eq_true, if_false]
        rw [HREST.out, List.getElem?_drop, Nat.add_zero, List.getElem?_eq_getElem hlt]
      obtain ⟨rest', hrest'⟩ : ∃ rest', rest' = rest.tail := ⟨_, rfl⟩
      have hnew : setN (us, rest) false ((rowN (us, rest) false).eraseIdx 0) = (us, rest') := by
        rw [hrest']
        simp [rowN, setN]
      have hr2 : rest' = ds.drop (k + 1) := by rw [hrest', HREST.out, List.tail_drop]
      have HNEW := Lib.hid hnew
      have HGET := Lib.hid hget
      have HR2 := Lib.hid hr2
      obtain ⟨b, off, rfl, hbb, hlen, hcl⟩ := (HRD.out).at k (x := strV (ds[k]'hlt)) (by simp [hlt])
      have hcl := hcl k (strV (ds[k]'hlt)) (by simp [hlt])
      have HCL := Lib.hid hcl
      clear hget hnew hcl hrest' hr2
      generalize hx : (ds[k]'hlt) = x at *
      clear hx
      go_wp2_with fail
      refine (net_Take_ok _ (us, rest) false 0 x _ _ HNK.out (fun b hb => hb.2) (by simp only; omega) (by simp only; omega) HGET.out).mono ?_
      rw [HNEW.out]
      rintro e6 w6 ⟨v6, rfl, hn6, hb6⟩
      obtain ⟨A6, c6, B6, d6, rfl, -, -, -, -⟩ := id hn6
      have hs6 := hb6.size
      have q0 := cell_keep hb6 g0
      have q1 := cell_keep hb6 g1
      have r0 := (bcell hb6).2 w3.heap.size 0 hsk
      have r1 := (bcell hb6).2 w3.heap.size 1 hsk
      rw [p0] at r0
      rw [p1] at r1
      have hcl6 : w6.cell? ⟨b, off + k, none⟩ = some (.string ⟨x.toArray⟩) := cell_keep hb6 (cell_keep HBK.out HCL.out)
      have lb := cell_lt hcl6
      have HN6 := Lib.hid hn6
      have HB6 := Lib.hid (below_trans HBK.out hb6 HBK.out.size)
      clear g0 g1 p0 p1 hn6 hb6 k50 k51
      simp only at HN6 ⊢
      have lq := cell_lt q0
      have HP := Lib.hid (put2 (.slice A6 us.length c6) (.slice B6 rest'.length d6) q0 q1)
      go_wp2_with fail
      go_roundw
      case rel =>
        obtain ⟨hp0, hp1, hpf, hps, hpz⟩ := HP.out
        refine ⟨k + 1, rest', A6, c6, B6, d6, by go_num, by omega, HR2.out, ?_, cell_alloc _ hp0, cell_alloc _ hp1, ?_, ?_, ?_, ?_⟩
        · refine HN6.out.frame (fun b hb hl => ?_) (by simp) (fun b hb => ?_)
          · have hne : b ≠ w3.heap.size := by rcases hb with h | h; exact h.1; omega
            rw [Below.heap_alloc _ _ _ (by rw [hps]; exact hl), hpf b hne]
          · rcases hb with h | h; exact h.1; omega
        · rw [World.frozen?_of_block (Below.heap_alloc _ _ _ (by rw [hps]; exact lq)), hpz, r0]
        · rw [World.frozen?_of_block (Below.heap_alloc _ _ _ (by rw [hps]; exact lq)), hpz, r1]
        · exact ((HB6.out.setCell (Nat.le_refl _) _).setCell (Nat.le_refl _) _).alloc (by rw [hps]; omega) _
        · rw [World.size_alloc, hps]; omega
      case measure => simp [intOf]; omega
    · have hr0 : rest = [] := by rw [HREST.out, List.drop_eq_nil_of_le (by omega)]
      have hno : (0 : Int) < 0 ∨ ((rowN (us, rest) false).length : Int) ≤ 0 := .inr (by simp only [rowN, Bool.false_eq_true, if_false]; rw [hr0]; simp)
      have HNO := Lib.hid hno
      have hrz : rest.length ≤ 0 := by rw [hr0]; simp
      clear hr0 hno
      go_wp2_with fail
      refine (net_Take_no _ (us, rest) false 0 _ _ HNK.out (fun b hb => hb.2) (by simp only; omega) (by simp only; omega) (by omega) (by omega) HNO.out).mono ?_
      rintro e6 w6 ⟨v6, rfl, hn6, hb6⟩
      obtain ⟨A6, c6, B6, d6, rfl, -, -, -, -⟩ := id hn6
      have q0 := cell_keep hb6 g0
      have q1 := cell_keep hb6 g1
      have q2 := cell_keep hb6 k50
      have q3 := cell_keep hb6 k51
      have lq := cell_lt q0
      have lq2 := cell_lt q2
      have HB6 := Lib.hid (below_trans HB3.out (below_trans HBK.out hb6 (by omega)) HB3.out.size)
      clear g0 g1 p0 p1 hn6 hb6 k50 k51 k30 k31 HNK
      simp only
      go_wp2_with fail
      obtain ⟨W8, hW8⟩ : ∃ W8, W8 = w6.alloc (.cells #[.slice A6 us.length c6, .slice B6 rest.length d6] 24) := ⟨_, rfl⟩
      have hb8 : Below w6.heap.size w6 W8 := by rw [hW8]; exact (Below.refl _ _).alloc (Nat.le_refl _) _
      have t0 := cell_keep hb8 q0
      have t1 := cell_keep hb8 q1
      have t2 := cell_keep hb8 q2
      have t3 := cell_keep hb8 q3
      have HB8 := Lib.hid (below_trans HB6.out hb8 HB6.out.size)
      rw [← hW8]
      have hle : w.heap.size ≤ W8.heap.size := HB8.out.size
      clear hW8 hb8 q0 q1 q2 q3 lq lq2
      have z1 : us.length ≤ 8796093022208 := by omega
      have z2 : rest.length ≤ 8796093022208 := by omega
      have z3 : us.length ≤ 8796093022208 := by omega
      have z4 : ds.length ≤ 8796093022208 := by omega
      have hwr : IntKind.i64.wrap ((us.length : Int) + (ds.length : Int) - (ds.length : Int)) = (us.length : Int) + (rest.length : Int) := by
        rw [IntWalk.i64_in _ (by omega)]
        omega
      go_region_held3 (fun w' => w'.cell? ⟨w3.heap.size, 0, none⟩ = some (.slice A1 us.length c1) ∧ w'.cell? ⟨w3.heap.size, 1, none⟩ = some (.slice B1 rest.length d1) ∧ w'.cell? ⟨w.heap.size, 0, none⟩ = some (.slice A us.length c) ∧ w'.cell? ⟨w.heap.size, 1, none⟩ = some (.slice B ds.length d)) (go_keep)
        (first | (go_at_call_of 15 (Value.agg #[.slice A1 us.length c1, .slice B1 rest.length d1]); refine (net_Many_at A1 B1 us.length rest.length c1 d1 _ z1 z2).mono ?_; rintro e w7 ⟨rfl, rfl⟩) | (go_at_call_of 15 (Value.agg #[.slice A us.length c, .slice B ds.length d]); refine (net_Many_at A B us.length ds.length c d _ z3 z4).mono ?_; rintro e w7 ⟨rfl, rfl⟩))
      all_goals
        clear hwr
        go_wp2_with fail
        go_ret
        refine ⟨ret_bool (by first | (simp; done) | (simp; rw [IntWalk.i64_in _ (by omega)]; omega)), ?_⟩
        exact ((HB8.out.alloc hle _).alloc (by simp; omega) _).drew

end Go.Proofs.Ytmpiglciplpfhaa.netOrder
