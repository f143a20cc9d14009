/- copyholdref14.Decide, where Ask tells of none: the document's own answer; old memory is as it was. -/
import Derived.Test.YthnajmfbomedlaaTabDecP
set_option linter.unusedVariables false
set_option linter.unusedSimpArgs false
namespace Go.Proofs.Ythnajmfbomedlaa
open Go.RowKit Copyhold

set_option maxRecDepth 100000 in
set_option maxHeartbeats 16000000 in
theorem ref14_Decide_none (rs : List TRow) (A : Option Addr) (c : Nat) (n ep sq : Int) (yes : Bool) (w : World) (hr : RowsIn w (.slice A rs.length c) rs) (hn : rs.length ≤ 100000) (hs : SrtC rs) (n1 : -9223372036854775808 ≤ n) (n2 : n ≤ 9223372036854775807)
    (e1 : -9223372036854775808 ≤ ep) (e2 : ep ≤ 9223372036854775807) (s1 : -9223372036854775808 ≤ sq) (s2 : sq ≤ 9223372036854775807) (ha : askR rs n ep sq = (false, 6)) (hp : placeR rs n = -1) (hx0 : rs.length < 64)
    (xr : TRow) (hxr : xr = ⟨n, ep, 0, insD [] sq yes⟩) : Calls Try.prog 17 #[.slice A rs.length c, .int .i64 n, .int .i64 ep, .int .i64 sq, .bool yes] w (DecRet w (putR rs xr, yes, 0)) := by
  have HASK := Lib.hid (ref14_Ask rs _ n ep sq w hr hn n1 n2 e1 e2 s1 s2)
  rw [ha] at HASK
  simp only at HASK
  have HPL : Hid (∀ W : World, RowsIn W (.slice A rs.length c) rs → Calls Try.prog 30 #[.slice A rs.length c, .int .i64 n] W fun e w' => e = .returned (.int .i64 (-1)) ∧ w' = W) := Lib.hid fun W h => by
    have := ref14_place rs _ n W h hn n1 n2
    rw [hp] at this
    exact this
  have HR := Lib.hid hr
  have HS := Lib.hid hs
  clear hr hs ha hp
  go_enter Try.func17, Try.ntmps17
  go_wp2_with fail
  refine HASK.out.mono ?_
  rintro e w1 ⟨rfl, hb1⟩
  have HB0 := Lib.hid hb1
  have hr1 := HR.out.below hb1
  clear hb1
  go_wp2_with fail
  refine (HPL.out w1 hr1).mono ?_
  rintro e w2 ⟨rfl, rfl⟩
  have hx : (rs.length : Int) < 64 := by omega
  obtain ⟨W1, hW1⟩ : ∃ W1, W1 = w2.alloc (.cells #[.int .i64 n, .int .i64 ep, .int .i64 0, .slice none 0 0] 63) := ⟨_, rfl⟩
  go_wp2_with fail
  rw [← hW1]
  obtain ⟨bl, hbl0⟩ : ∃ bl : List (Int × Bool), bl = [] := ⟨_, rfl⟩
  obtain ⟨bd, hbd0⟩ : ∃ bd : Int, bd = 0 := ⟨_, rfl⟩
  obtain ⟨Ab, hAb0⟩ : ∃ Ab : Option Addr, Ab = none := ⟨_, rfl⟩
  obtain ⟨cb, hcb0⟩ : ∃ cb : Nat, cb = 0 := ⟨_, rfl⟩
  have hsl : SlOf DecR w2 2 (.slice Ab bl.length cb) bl := by rw [hAb0, hcb0, hbl0]; exact ⟨[], Sl.nil _ _, rfl, fun i cs a hc _ => by simp at hc⟩
  have hbl : bl.length < 256 := by rw [hbl0]; simp
  have m1 : -9223372036854775808 ≤ bd := by omega
  have m2 : bd ≤ 9223372036854775807 := by omega
  have hbb : (0 : Int) = bd := hbd0.symm
  rw [show (Value.slice none 0 0) = .slice Ab bl.length cb from by rw [hAb0, hcb0, hbl0]; rfl, hbb] at hW1
  rw [show (⟨n, ep, 0, insD [] sq yes⟩ : TRow) = ⟨n, ep, bd, insD bl sq yes⟩ from by rw [hbd0, hbl0]] at hxr
  clear hbb hbd0 hAb0 hcb0 hbl0
  have HXR := Lib.hid hxr
  clear hxr
  have HT1 := Lib.hid (show TBox W1 w2.heap.size 63 #[.int .i64 n, .int .i64 ep, .int .i64 bd, .slice Ab bl.length cb] from by rw [hW1]; exact TBox.new _ _ _)
  have HB1 := Lib.hid (show Below w2.heap.size w2 W1 from by rw [hW1]; exact (Below.refl _ _).alloc (Nat.le_refl _) _)
  have HR1 := Lib.hid hr1
  have HSL := Lib.hid hsl
  have HOK := Lib.hid (decs_ok hsl)
  have hcap : bl.length ≤ cb := by
    obtain ⟨css, h, _⟩ := hsl
    obtain ⟨_, _, he, hc, _⟩ := h.shape
    simp only [Value.slice.injEq] at he
    omega
  clear hW1 hr1 hsl hx
  go_loopw [17, 18] (fun sl si wr => ∃ j : Nat, si = .int .i64 j ∧ j ≤ bl.length ∧ lowD bl sq j ∧ wr.ownsRow (w2.heap.size + 1) 65 2 sl j ((bl.take j).flatMap decC) ∧ TBox wr w2.heap.size 63 #[.int .i64 n, .int .i64 ep, .int .i64 bd, .slice Ab bl.length cb] ∧ Below w2.heap.size w2 wr) (fun _ si _ => bl.length - (intOf si).toNat)
  case atStart => exact ⟨0, rfl, Nat.zero_le _, fun j hj h => absurd h (Nat.not_lt_zero _), World.ownsRow_nil _ _ _ _, HT1.out, HB1.out⟩
  case round =>
    obtain ⟨j, rfl, hj, hlow, hown, ht, hb⟩ := hrel
    have HX := Lib.hid (And.intro hlow (And.intro hown (And.intro ht hb)))
    have p0 : wr.cell? ⟨w2.heap.size, 0, none⟩ = some (.int .i64 n) := ht.cell 0
    have p1 : wr.cell? ⟨w2.heap.size, 1, none⟩ = some (.int .i64 ep) := ht.cell 1
    have p2 : wr.cell? ⟨w2.heap.size, 2, none⟩ = some (.int .i64 bd) := ht.cell 2
    have p3 : wr.cell? ⟨w2.heap.size, 3, none⟩ = some (.slice Ab bl.length cb) := ht.cell 3
    have hsw : w2.heap.size < wr.heap.size := ht.lt
    clear hlow hown ht hb
    by_cases hgo : ∃ h : j < bl.length, bl[j].1 < sq
    · obtain ⟨hjl, hless⟩ := hgo
      obtain ⟨b2, off2, rfl, hbk2, d0, d1, od⟩ := decs_at (HSL.out.below HX.out.2.2.2) j hjl
      have hji : (j : Int) < (bl.length : Int) := by omega
      have HLW := Lib.hid (show lowD bl sq (j + 1) from fun i hi hij => by
        by_cases h : i < j
        · exact HX.out.1 i hi h
        · obtain rfl : i = j := by omega
          exact hless)
      have HST := Lib.hid (show bl.take (j + 1) = bl.take j ++ [bl[j]] from List.take_succ_eq_append_getElem hjl)
      obtain ⟨z1, z2⟩ := od
      generalize bl[j] = d at *
      obtain ⟨d0v, db⟩ := d
      simp only at d0 d1 z1 z2 hless
      obtain ⟨v', w4, hrun, ho4, hk4, hs4, hb4⟩ := app_dec (w3 := wr) (base := w2.heap.size + 1) (d0v, db) HX.out.2.1 (by omega) hsw
      have t4 : TBox w4 w2.heap.size 63 #[.int .i64 n, .int .i64 ep, .int .i64 bd, .slice (some ⟨b2, off2, none⟩) bl.length cb] := by
        have := HX.out.2.2.1
        unfold TBox at this ⊢
        rw [hk4 _ (by omega)]
        exact this
      have HY := Lib.hid (And.intro ho4 (And.intro t4 (hb4 _ _ HX.out.2.2.2 (by omega))))
      clear ho4 hk4 hs4 hb4 t4
      go_wp2_with (at_builtin; refine wpList_append_run rfl _ _ _ rfl _ _ _ _ rfl rfl hrun ?_)
      go_roundw
      case rel => exact ⟨j + 1, by go_num, by omega, HLW.out, by rw [HST.out, List.flatMap_append]; simpa using HY.out.1, HY.out.2.1, HY.out.2.2⟩
      case measure => simp [intOf]; omega
    · have HINS := Lib.hid (ins_at sq yes bl j hj HX.out.1 (fun h h2 => hgo ⟨h, h2⟩))
      have hlen := insD_len bl sq yes
      obtain ⟨v4, w4, hrun4, ho4, hk4, hs4, hb4⟩ := app_dec (w3 := wr) (base := w2.heap.size + 1) (sq, yes) HX.out.2.1 (by omega) hsw
      obtain ⟨A4, c4, rfl, -, -⟩ := (Sl.of_owns ho4).shape
      have t4 : TBox w4 w2.heap.size 63 #[.int .i64 n, .int .i64 ep, .int .i64 bd, .slice Ab bl.length cb] := by
        have := HX.out.2.2.1
        unfold TBox at this ⊢
        rw [hk4 _ (by omega)]
        exact this
      have hb5 := hb4 _ _ HX.out.2.2.2 (by omega)
      obtain ⟨css, hfit, hslc⟩ := (HSL.out.below hb5).parts
      have hpost := fun W : World => run_post decElem Ab bl.length cb j hj W
      have hpiece := hfit.post hslc j hj
      obtain ⟨A', hA'⟩ : ∃ A', A' = cutA Ab cb j 2 := ⟨_, rfl⟩
      obtain ⟨n', hn'⟩ : ∃ n', n' = bl.length - j := ⟨_, rfl⟩
      obtain ⟨c', hc'⟩ : ∃ c', c' = cb - j := ⟨_, rfl⟩
      rw [← hA', ← hn', ← hc'] at hpiece
      simp only [← hA', ← hn', ← hc'] at hpost
      obtain ⟨v6, w6, hrun6, ho6, h6, _⟩ := append_sl decElem w4 (w2.heap.size + 1) 61 _ _ _ ho4 _ n' _ hpiece ((hfit.drop j).cells decR_one) (by unfold maxLen; omega) (by omega) (by have := t4.lt; omega)
      obtain ⟨A6, c6, rfl, -, -⟩ := (Sl.of_owns ho6).shape
      have t6 : TBox w6 w2.heap.size 63 #[.int .i64 n, .int .i64 ep, .int .i64 bd, .slice Ab bl.length cb] := by
        unfold TBox at t4 ⊢
        rw [h6.block _ (by have := t4; exact (Array.getElem?_eq_some_iff.1 t4).1) (fun e => by have := (own_block_ge ho4 _ e.symm).1; omega)]
        exact t4
      have hb6 : Below w2.heap.size w2 w6 := hb5.grown h6 (by have := t4.lt; omega) (fun g hg => by have := (own_block_ge ho4 g hg).1; omega)
      have hlen6 : j + 1 + n' = (insD bl sq yes).length := by rw [hlen]; omega
      rw [hlen6] at hrun6 ho6
      have q0 : w6.cell? ⟨w2.heap.size, 0, none⟩ = some (.int .i64 n) := t6.cell 0
      have q1 : w6.cell? ⟨w2.heap.size, 1, none⟩ = some (.int .i64 ep) := t6.cell 1
      have q2 : w6.cell? ⟨w2.heap.size, 2, none⟩ = some (.int .i64 bd) := t6.cell 2
      have f6 : w6.frozen? ⟨w2.heap.size, 3, none⟩ = false := t6.free 3
      have q3 : w6.cell? ⟨w2.heap.size, 3, none⟩ = some (.slice Ab bl.length cb) := t6.cell 3
      have x3 : w4.cell? ⟨w2.heap.size, 3, none⟩ = some (.slice Ab bl.length cb) := t4.cell 3
      have hW : (w6.setCell ⟨w2.heap.size, 3, none⟩ (.slice A6 (insD bl sq yes).length c6)).ownsRow (w2.heap.size + 1) 65 2 (.slice A6 (insD bl sq yes).length c6) (insD bl sq yes).length ((insD bl sq yes).flatMap decC) := by
        refine owns_setCell ?_ _ _ (by simp)
        have hcs : (css.drop j).flatten = (bl.drop j).flatMap decC := decs_flat _ _ (hfit.drop j)
        rw [hcs] at ho6
        rw [HINS.out, List.flatMap_append, List.flatMap_append, ← List.append_assoc]
        rw [HINS.out] at ho6
        simpa using ho6
      have hbW : Below w2.heap.size w2 (w6.setCell ⟨w2.heap.size, 3, none⟩ (.slice A6 (insD bl sq yes).length c6)) := hb6.setCell (p := ⟨w2.heap.size, 3, none⟩) (Nat.le_refl _) _
      have tW : TBox (w6.setCell ⟨w2.heap.size, 3, none⟩ (.slice A6 (insD bl sq yes).length c6)) w2.heap.size 63 #[.int .i64 n, .int .i64 ep, .int .i64 bd, .slice A6 (insD bl sq yes).length c6] := t6.set 3 _
      have hslo : SlOf DecR (w6.setCell ⟨w2.heap.size, 3, none⟩ (.slice A6 (insD bl sq yes).length c6)) 2 (.slice A6 (insD bl sq yes).length c6) (insD bl sq yes) := by
        refine (decs_fit (insD bl sq yes) (fun d hd => ?_)).slOf ?_
        · rcases mem_ins bl sq yes d hd with rfl | h
          · exact ⟨s1, s2⟩
          · exact HOK.out d h
        · rw [← List.flatMap_def]
          exact Sl.of_owns hW
      obtain ⟨W6, hW6⟩ : ∃ W6, W6 = w6.setCell ⟨w2.heap.size, 3, none⟩ (.slice A6 (insD bl sq yes).length c6) := ⟨_, rfl⟩
      rw [← hW6] at hW hbW tW hslo
      have r0 : W6.cell? ⟨w2.heap.size, 0, none⟩ = some (.int .i64 n) := tW.cell 0
      have r1 : W6.cell? ⟨w2.heap.size, 1, none⟩ = some (.int .i64 ep) := tW.cell 1
      have r2 : W6.cell? ⟨w2.heap.size, 2, none⟩ = some (.int .i64 bd) := tW.cell 2
      have r3 : W6.cell? ⟨w2.heap.size, 3, none⟩ = some (.slice A6 (insD bl sq yes).length c6) := tW.cell 3
      have HPUT := Lib.hid (ref14_put rs _ ⟨n, ep, bd, insD bl sq yes⟩ A6 c6 W6 (HR1.out.below hbW) hn HS.out hslo (by simp only; rw [hlen]; omega) ⟨⟨n1, n2⟩, ⟨e1, e2⟩, ⟨m1, m2⟩⟩)
      simp only at HPUT
      rw [← HXR.out] at HPUT
      have HBW := Lib.hid hbW
      have HW6 := Lib.hid hW6
      have hnd : ¬ (∃ h : j < bl.length, bl[j].1 < sq) := hgo
      clear hlen hlen6
      clear hslo tW hbW hW hW6 ho6 h6 t6 hb6 ho4 hk4 hs4 hb4 t4 hb5 hfit hslc hpiece hgo
      by_cases hjl : j < bl.length
      · have hnl : ¬ bl[j].1 < sq := fun h => hnd ⟨hjl, h⟩
        obtain ⟨b2, off2, hAb, hbk2, d0, d1, od⟩ := decs_at (HSL.out.below HX.out.2.2.2) j hjl
        have hji : (j : Int) < (bl.length : Int) := by omega
        have hj0 : (0 : Int) ≤ (j : Int) := by omega
        subst hAb
        clear hnd
        generalize bl[j].1 = x at *
        subst hA' hn' hc'
        go_wp2_with (at_builtin; first | refine wpList_append_run rfl _ _ _ rfl _ _ _ _ rfl rfl hrun4 ?_ | refine wpList_append_run rfl _ _ _ rfl _ _ _ _ rfl rfl hrun6 ?_)
        rw [← HW6.out]
        go_wp2_with fail
        refine HPUT.out.mono ?_
        rintro e w7 ⟨A7, c7, rfl, hri, hb7⟩
        have HRI := Lib.hid (And.intro hri (below_trans HB0.out (below_trans HBW.out hb7 HBW.out.size) HB0.out.size))
        clear hri hb7
        go_wp2_with fail
        refine bodyPost_ret (v := .tuple #[.slice A7 (putR rs xr).length c7, .bool yes, .int .i64 0]) (by simp [results, Try.results17, go_sem]) rfl ⟨A7, c7, rfl, HRI.out⟩
      · have hji : ¬ (j : Int) < (bl.length : Int) := by omega
        have hj0 : (0 : Int) ≤ (j : Int) := by omega
        clear hnd
        subst hA' hn' hc'
        go_wp2_with (at_builtin; first | refine wpList_append_run rfl _ _ _ rfl _ _ _ _ rfl rfl hrun4 ?_ | refine wpList_append_run rfl _ _ _ rfl _ _ _ _ rfl rfl hrun6 ?_)
        rw [← HW6.out]
        go_wp2_with fail
        refine HPUT.out.mono ?_
        rintro e w7 ⟨A7, c7, rfl, hri, hb7⟩
        have HRI := Lib.hid (And.intro hri (below_trans HB0.out (below_trans HBW.out hb7 HBW.out.size) HB0.out.size))
        clear hri hb7
        go_wp2_with fail
        refine bodyPost_ret (v := .tuple #[.slice A7 (putR rs xr).length c7, .bool yes, .int .i64 0]) (by simp [results, Try.results17, go_sem]) rfl ⟨A7, c7, rfl, HRI.out⟩

end Go.Proofs.Ythnajmfbomedlaa

