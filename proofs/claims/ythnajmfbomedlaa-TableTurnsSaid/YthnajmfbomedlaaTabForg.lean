/- copyholdref14.Forget: the document's own answer; old memory is as it was. -/
import Derived.Test.YthnajmfbomedlaaTabPut
import Derived.Test.YthnajmfbomedlaaTabP5
set_option linter.unusedVariables false
set_option linter.unusedSimpArgs false
namespace Go.Proofs.Ythnajmfbomedlaa
open Go.RowKit Copyhold

def forgetR (rs : List TRow) (n ep dn : Int) : List TRow × Int := if whyF rs n ep dn ≠ 0 then (rs, whyF rs n ep dn) else match rowAt rs n with
  | none => (rs, 0)
  | some r => (putR rs (cutD dn r), 0)
theorem forgetR_eq {rs : List TRow} (h : Good rs) (n ep dn : Int) : forgetR rs n ep dn = forgetF rs n ep dn := by
  have ho := own_row rs n ep dn h.2.1
  unfold forgetR forgetF whyF
  by_cases hv : n < 0 ∨ ep < 1 ∨ dn < 1
  · rw [if_pos hv] at ho
    simp [if_pos hv, ho]
  · rw [if_neg hv] at ho
    simp only [if_neg hv]
    cases hr : rowAt rs n with
    | none =>
      rw [hr] at ho
      simp [ho]
    | some r =>
      rw [hr] at ho
      simp only at ho ⊢
      by_cases c1 : ep < r.epoch
      · rw [if_pos c1] at ho
        simp [ho, c1]
      · rw [if_neg c1] at ho
        by_cases c2 : r.epoch < ep
        · rw [if_pos c2] at ho
          simp [ho, c1, c2]
        · rw [if_neg c2] at ho
          have he : r.epoch = ep := by omega
          have hb : baseR rs n ep = r := by unfold baseR; rw [hr]; simp [he]
          have := change_base rs n ep (cutD dn) (fun _ => rfl) h.2.1
          rw [hb] at this
          simp [ho, c1, c2, this]

set_option maxRecDepth 100000 in
set_option maxHeartbeats 16000000 in
theorem ref14_Forget_some (rs : List TRow) (A : Option Addr) (c : Nat) (n ep dn M : Int) (w : World) (hr : RowsIn w (.slice A rs.length c) rs) (hn : rs.length ≤ 100000) (hs : SrtC rs) (n1 : -9223372036854775808 ≤ n) (n2 : n ≤ 9223372036854775807)
    (e1 : -9223372036854775808 ≤ ep) (e2 : ep ≤ 9223372036854775807) (s1 : -9223372036854775808 ≤ dn) (s2 : dn ≤ 9223372036854775807) (hwy : whyF rs n ep dn = 0) (k : Nat) (hk : k < rs.length) (hp : placeR rs n = k) (rd : Int) (rl : List (Int × Bool)) (hre : rs[k] = ⟨n, ep, rd, rl⟩) (hrl : rl.length ≤ 100000) (hM : M = max rd dn) :
    Calls Try.prog 19 #[.slice A rs.length c, .int .i64 n, .int .i64 ep, .int .i64 dn] w (ForRet w (putR rs ⟨n, ep, M, above rl M⟩, 0)) := by
  have HWY := Lib.hid (ref14_why rs _ n ep dn w hr hn n1 n2 e1 e2 s1 s2)
  have HPL := Lib.hid (ref14_place rs _ n w hr hn n1 n2)
  rw [hwy] at HWY
  rw [hp] at HPL
  have HR := Lib.hid hr
  have HS := Lib.hid hs
  obtain ⟨b, off, A', c', rfl, hbk, k0, k1, k2, k3, hsl, hll, o1, o2, o3⟩ := hr.at k hk
  rw [hre] at k0 k1 k2 k3 hsl hll o3
  simp only at k0 k1 k2 k3 hsl hll o3
  obtain ⟨r1, r2⟩ := o3
  have hki : (k : Int) < (rs.length : Int) := by omega
  have HSL := Lib.hid hsl
  have HOK := Lib.hid (decs_ok hsl)
  have m1 : -9223372036854775808 ≤ M := by omega
  have m2 : M ≤ 9223372036854775807 := by omega
  obtain ⟨W2, hW2⟩ : ∃ W2, W2 = (w.alloc (.cells #[.int .i64 n, .int .i64 ep, .int .i64 rd, .slice A' rl.length c'] 63)).alloc (.cells #[.int .i64 n, .int .i64 ep, .int .i64 M, .slice none 0 0] 63) := ⟨_, rfl⟩
  have hb0 : Below w.heap.size w (w.alloc (.cells #[.int .i64 n, .int .i64 ep, .int .i64 rd, .slice A' rl.length c'] 63)) := (Below.refl _ _).alloc (Nat.le_refl _) _
  have HB2 := Lib.hid (show Below w.heap.size w W2 from by rw [hW2]; exact hb0.alloc (by simp) _)
  have HT2 := Lib.hid (show TBox W2 w.heap.size 63 #[.int .i64 n, .int .i64 ep, .int .i64 rd, .slice A' rl.length c'] from by
    rw [hW2]
    exact (TBox.new _ _ _).below ((Below.refl _ _).alloc (Nat.le_refl _) _))
  have HG2 := Lib.hid (show TBox W2 (w.heap.size + 1) 63 #[.int .i64 n, .int .i64 ep, .int .i64 M, .slice none 0 0] from by
    rw [hW2]
    have h := TBox.new (w.alloc (.cells #[.int .i64 n, .int .i64 ep, .int .i64 rd, .slice A' rl.length c'] 63)) 63 #[.int .i64 n, .int .i64 ep, .int .i64 M, .slice none 0 0]
    rw [show (w.alloc (.cells #[.int .i64 n, .int .i64 ep, .int .i64 rd, .slice A' rl.length c'] 63)).heap.size = w.heap.size + 1 from by simp] at h
    exact h)
  have HW2 := Lib.hid hW2
  have hcases : (rd < dn ∧ M = dn) ∨ (dn ≤ rd ∧ M = rd) := by omega
  clear hr hs hwy hp hre hsl o1 o2 hW2 hM hb0
  rcases hcases with ⟨hlt, rfl⟩ | ⟨hlt, rfl⟩
  · go_enter Try.func19, Try.ntmps19
    go_wp2_with fail
    refine HWY.out.mono ?_
    rintro e w1 ⟨rfl, rfl⟩
    go_wp2_with fail
    refine HPL.out.mono ?_
    rintro e w2 ⟨rfl, rfl⟩
    go_wp2_with fail
    rw [← HW2.out]
    go_loopw [13] (fun si wr => ∃ (j : Nat) (sl : Value), si = .int .i64 j ∧ j ≤ rl.length ∧ wr.ownsRow (w2.heap.size + 2) 65 2 sl (aboveK rl M j).length ((aboveK rl M j).flatMap decC) ∧ TBox wr w2.heap.size 63 #[.int .i64 n, .int .i64 ep, .int .i64 rd, .slice A' rl.length c'] ∧ TBox wr (w2.heap.size + 1) 63 #[.int .i64 n, .int .i64 ep, .int .i64 M, sl] ∧ Below w2.heap.size w2 wr) (fun si _ => rl.length - (intOf si).toNat)
    case atStart => exact ⟨0, _, rfl, Nat.zero_le _, World.ownsRow_nil _ _ _ _, HT2.out, HG2.out, HB2.out⟩
    case round =>
      obtain ⟨j, sl, rfl, hj, hown, ht, hg, hb⟩ := hrel
      obtain ⟨A5, c5, rfl, -, -⟩ := (Sl.of_owns hown).shape
      have HX := Lib.hid (And.intro hown (And.intro ht (And.intro hg hb)))
      have q3 : wr.cell? ⟨w2.heap.size, 3, none⟩ = some (.slice A' rl.length c') := ht.cell 3
      have g2 : wr.cell? ⟨w2.heap.size + 1, 2, none⟩ = some (.int .i64 M) := hg.cell 2
      have g3 : wr.cell? ⟨w2.heap.size + 1, 3, none⟩ = some (.slice A5 (aboveK rl M j).length c5) := hg.cell 3
      have hsw : w2.heap.size + 1 < wr.heap.size := hg.lt
      clear hown ht hg hb
      by_cases hjl : j < rl.length
      · obtain ⟨b2, off2, rfl, hbk2, y0, y1, od⟩ := decs_at HSL.out j hjl
        have d0 := cell_keep HX.out.2.2.2 y0
        have d1 := cell_keep HX.out.2.2.2 y1
        have HYY := Lib.hid (And.intro y0 y1)
        clear y0 y1
        have hji : (j : Int) < (rl.length : Int) := by omega
        have hst := aboveK_step rl M j hjl
        have hle := aboveK_le rl M j
        have HD := Lib.hid od
        obtain ⟨z1, z2⟩ := od
        clear k0 k1 k2 k3
        generalize rl[j] = d at *
        obtain ⟨d0v, db⟩ := d
        simp only at d0 d1 hst z1 z2 HYY
        by_cases hd : M < d0v
        · rw [if_pos hd] at hst
          have HST := Lib.hid hst
          have hdd : decide (M < d0v) = true := by rw [decide_eq_true_iff]; omega
          clear hst
          go_wp2_with fail
          go_quiet (fail)
          obtain ⟨wq, hwq⟩ : ∃ wq, wq = wr.drewN nq := ⟨_, rfl⟩
          have q3' : wq.cell? ⟨w2.heap.size, 3, none⟩ = some (.slice (some ⟨b2, off2, none⟩) rl.length c') := by rw [hwq]; exact q3
          have g3' : wq.cell? ⟨w2.heap.size + 1, 3, none⟩ = some (.slice A5 (aboveK rl M j).length c5) := by rw [hwq]; exact g3
          have d0' : wq.cell? ⟨b2, off2 + j * 2, none⟩ = some (.int .i64 d0v) := by rw [hwq]; exact d0
          have d1' : wq.cell? ⟨b2, off2 + j * 2 + 1, none⟩ = some (.bool db) := by rw [hwq]; exact d1
          have HXQ := Lib.hid (show wq.ownsRow (w2.heap.size + 2) 65 2 (.slice A5 (aboveK rl M j).length c5) (aboveK rl M j).length ((aboveK rl M j).flatMap decC) ∧ TBox wq w2.heap.size 63 #[.int .i64 n, .int .i64 ep, .int .i64 rd, .slice (some ⟨b2, off2, none⟩) rl.length c'] ∧ TBox wq (w2.heap.size + 1) 63 #[.int .i64 n, .int .i64 ep, .int .i64 M, .slice A5 (aboveK rl M j).length c5] ∧ Below w2.heap.size w2 wq ∧ wq.heap.size = wr.heap.size from by rw [hwq]; exact ⟨HX.out.1, HX.out.2.1, HX.out.2.2.1, below_dn HX.out.2.2.2 nq, rfl⟩)
          rw [← hwq]
          clear hwq q3 g3 g2 d0 d1 HX
          have hsq : w2.heap.size + 1 < wq.heap.size := by rw [HXQ.out.2.2.2.2]; exact hsw
          obtain ⟨v', w4, hrun, ho4, hk4, hs4, hb4⟩ := app_dec (w3 := wq.drew) (base := w2.heap.size + 2) (d0v, db) (show wq.drew.ownsRow _ _ _ _ _ _ from HXQ.out.1) (by omega) (show w2.heap.size + 2 ≤ wq.heap.size from hsq)
          obtain ⟨A6, c6, rfl, -, -⟩ := (Sl.of_owns ho4).shape
          have hk4' : ∀ b, b < w2.heap.size + 2 → w4.heap[b]? = wq.heap[b]? := hk4
          have t4 : TBox w4 w2.heap.size 63 #[.int .i64 n, .int .i64 ep, .int .i64 rd, .slice (some ⟨b2, off2, none⟩) rl.length c'] := by
            have := HXQ.out.2.1
            unfold TBox at this ⊢
            rw [hk4' _ (by omega)]
            exact this
          have gg4 : TBox w4 (w2.heap.size + 1) 63 #[.int .i64 n, .int .i64 ep, .int .i64 M, .slice A5 (aboveK rl M j).length c5] := by
            have := HXQ.out.2.2.1
            unfold TBox at this ⊢
            rw [hk4' _ (by omega)]
            exact this
          have HB4 := Lib.hid (hb4 w2.heap.size w2 (below_dn HXQ.out.2.2.2.1 1) (by omega))
          have f4 : w4.frozen? ⟨w2.heap.size + 1, 3, none⟩ = false := gg4.free 3
          have x4 : w4.cell? ⟨w2.heap.size + 1, 3, none⟩ = some (.slice A5 (aboveK rl M j).length c5) := gg4.cell 3
          have HY := Lib.hid (And.intro ho4 (And.intro t4 gg4))
          have HD4 := Lib.hid (And.intro (cell_keep HB4.out HYY.out.1) (cell_keep HB4.out HYY.out.2))
          have hs6 : w2.heap.size + 1 < w4.heap.size := gg4.lt
          have hb6 : b2 < w2.heap.size ∨ True := .inr trivial
          have HC4 := Lib.hid (show w4.cell? ⟨w2.heap.size + 1, 3, none⟩ = some (.slice A5 (aboveK rl M j).length c5) ∧ w4.cell? ⟨w2.heap.size, 3, none⟩ = some (.slice (some ⟨b2, off2, none⟩) rl.length c') from ⟨x4, t4.cell 3⟩)
          clear ho4 hk4 hk4' hs4 hb4 t4 gg4 hb6
          obtain ⟨len, hlen⟩ : ∃ len, (aboveK rl M j).length = len := ⟨_, rfl⟩
          have HLEN := Lib.hid hlen
          rw [hlen] at HXQ hrun HY HC4 x4 g3' hle
          clear hlen
          go_wp2_with fail
          refine wp_region_z (S := fun V => V.cell? ⟨w2.heap.size + 1, 3, none⟩ = some (.slice A5 len c5) ∧ V.cell? ⟨w2.heap.size, 3, none⟩ = some (.slice (some ⟨b2, off2, none⟩) rl.length c') ∧ V.cell? ⟨b2, off2 + j * 2, none⟩ = some (.int .i64 d0v) ∧ V.cell? ⟨b2, off2 + j * 2 + 1, none⟩ = some (.bool db)) 10 (by kernel_rfl) (⟨g3', q3', d0', d1'⟩) (fun hHeld => ?_)
          refine wpAnyZ_take (i := 0) (v := ?_) rfl (by kernel_rfl) (fun _ _ _ h => h) (Or.inl ⟨by rfl, ?_⟩) (by assumption) ?_
          rotate_left
          · intro w hSw
            try dsimp only at hSw
            go_simp
            try with_reducible rfl
          rotate_left
          try simp only [Act.put, List.setIfInBounds_toArray, List.set_cons_zero, List.set_cons_succ, List.getElem_toArray, List.getElem_cons_zero, List.getElem_cons_succ]
          refine wpAnyZ_take (i := 1) (v := ?_) rfl (by kernel_rfl) (fun _ _ _ h => h) (Or.inl ⟨by rfl, ?_⟩) (by assumption) ?_
          rotate_left
          · intro w hSw
            try dsimp only at hSw
            go_simp
            try with_reducible rfl
          rotate_left
          try simp only [Act.put, List.setIfInBounds_toArray, List.set_cons_zero, List.set_cons_succ, List.getElem_toArray, List.getElem_cons_zero, List.getElem_cons_succ]
          refine wpAnyZ_take (i := 2) (v := ?_) rfl (by kernel_rfl) (fun _ _ _ h => h) (Or.inl ⟨by rfl, ?_⟩) (by assumption) ?_
          rotate_left
          · intro w hSw
            try dsimp only at hSw
            go_simp
            try with_reducible rfl
          rotate_left
          try simp only [Act.put, List.setIfInBounds_toArray, List.set_cons_zero, List.set_cons_succ, List.getElem_toArray, List.getElem_cons_zero, List.getElem_cons_succ]
          refine wpAnyZ_take (i := 3) (v := ?_) rfl (by kernel_rfl) (fun _ _ _ h => h) (Or.inl ⟨by rfl, ?_⟩) (by assumption) ?_
          rotate_left
          · intro w hSw
            try dsimp only at hSw
            go_simp
            try with_reducible rfl
          rotate_left
          try simp only [Act.put, List.setIfInBounds_toArray, List.set_cons_zero, List.set_cons_succ, List.getElem_toArray, List.getElem_cons_zero, List.getElem_cons_succ]
          refine wpAnyZ_take (i := 4) (v := ?_) rfl (by kernel_rfl) (fun _ _ _ h => h) (Or.inl ⟨by rfl, ?_⟩) (by assumption) ?_
          rotate_left
          · intro w hSw
            try dsimp only at hSw
            go_simp
            try with_reducible rfl
          rotate_left
          try simp only [Act.put, List.setIfInBounds_toArray, List.set_cons_zero, List.set_cons_succ, List.getElem_toArray, List.getElem_cons_zero, List.getElem_cons_succ]
          refine wpAnyZ_take (i := 5) (v := ?_) rfl (by kernel_rfl) (fun _ _ _ h => h) (Or.inl ⟨by rfl, ?_⟩) (by assumption) ?_
          rotate_left
          · intro w hSw
            try dsimp only at hSw
            go_simp
            try with_reducible rfl
          rotate_left
          try simp only [Act.put, List.setIfInBounds_toArray, List.set_cons_zero, List.set_cons_succ, List.getElem_toArray, List.getElem_cons_zero, List.getElem_cons_succ]
          refine wpAnyZ_take (i := 6) (v := ?_) rfl (by kernel_rfl) (fun _ _ _ h => h) (Or.inl ⟨by rfl, ?_⟩) (by assumption) ?_
          rotate_left
          · intro w hSw
            try dsimp only at hSw
            go_simp
            try with_reducible rfl
          rotate_left
          try simp only [Act.put, List.setIfInBounds_toArray, List.set_cons_zero, List.set_cons_succ, List.getElem_toArray, List.getElem_cons_zero, List.getElem_cons_succ]
          refine wpAnyZ_one (i := 7) (by kernel_rfl) rfl (fun K hK => ?_)
          rw [if_pos (by rfl)]
          go_wp2_with fail
          refine hK.out _ _ (⟨cell_alloc _ hHeld.1, cell_alloc _ hHeld.2.1, cell_alloc _ hHeld.2.2.1, cell_alloc _ hHeld.2.2.2⟩) (fun hHeld => ?_)
          clear hK K
          try simp only [Act.put, List.setIfInBounds_toArray, List.set_cons_zero, List.set_cons_succ, List.getElem_toArray, List.getElem_cons_zero, List.getElem_cons_succ]
          refine wpAnyZ_one (i := 8) (by kernel_rfl) rfl (fun K hK => ?_)
          refine step_append_run rfl _ _ _ rfl _ _ _ _ rfl rfl hrun ?_
          refine hK.out _ _ (⟨HC4.out.1, HC4.out.2, HD4.out.1, HD4.out.2⟩) (fun hHeld => ?_)
          clear hK K
          try simp only [Act.put, List.setIfInBounds_toArray, List.set_cons_zero, List.set_cons_succ, List.getElem_toArray, List.getElem_cons_zero, List.getElem_cons_succ]
          refine wpAnyZ_take (i := 9) (v := ?_) rfl (by kernel_rfl) (fun _ _ _ h => h) (Or.inl ⟨by rfl, ?_⟩) (by assumption) ?_
          rotate_left
          · intro w hSw
            try dsimp only at hSw
            go_simp
            try with_reducible rfl
          rotate_left
          try simp only [Act.put, List.setIfInBounds_toArray, List.set_cons_zero, List.set_cons_succ, List.getElem_toArray, List.getElem_cons_zero, List.getElem_cons_succ]
          refine wpAnyZ_last (by kernel_rfl) rfl (fun K hK => ?_)
          rw [if_pos (by rfl)]
          go_wp2_with fail
          refine hK.out _ _ ?_
          clear hK K
          try simp only [Act.put, List.setIfInBounds_toArray, List.set_cons_zero, List.set_cons_succ, List.getElem_toArray, List.getElem_cons_zero, List.getElem_cons_succ]
          refine wpAnyZ_done (by kernel_rfl) ?_ _
          obtain ⟨W6, hW6⟩ : ∃ W6, W6 = w4.setCell ⟨w2.heap.size + 1, 3, none⟩ (.slice A6 (len + 1) c6) := ⟨_, rfl⟩
          rw [← hW6]
          have HZ := Lib.hid (show W6.ownsRow (w2.heap.size + 2) 65 2 (.slice A6 (len + 1) c6) (len + 1) ((aboveK rl M j).flatMap decC ++ decC (d0v, db)) ∧ TBox W6 w2.heap.size 63 #[.int .i64 n, .int .i64 ep, .int .i64 rd, .slice (some ⟨b2, off2, none⟩) rl.length c'] ∧ TBox W6 (w2.heap.size + 1) 63 #[.int .i64 n, .int .i64 ep, .int .i64 M, .slice A6 (len + 1) c6] ∧ Below w2.heap.size w2 W6 from by
            rw [hW6]
            exact ⟨owns_setCell HY.out.1 _ _ (by simp), HY.out.2.1.far _ _ _ (by omega), HY.out.2.2.set 3 _, HB4.out.setCell (p := ⟨w2.heap.size + 1, 3, none⟩) (Nat.le_succ _) _⟩)
          clear hW6 hHeld x4 f4 q3' g3' d0' d1' hrun
          go_wp2_with fail
          go_roundw
          case rel => exact ⟨j + 1, _, by go_num, by omega, by rw [HST.out, List.length_append, List.flatMap_append, HLEN.out]; simpa using HZ.out.1, HZ.out.2.1, HZ.out.2.2.1, HZ.out.2.2.2⟩
          case measure => simp [intOf]; omega
        · rw [if_neg hd] at hst
          have HST := Lib.hid hst
          have hdd : decide (M < d0v) = false := by rw [decide_eq_false_iff_not]; omega
          clear hst
          go_wp2_with fail
          go_quiet (fail)
          go_wp2_with fail
          go_roundw
          case rel => exact ⟨j + 1, _, by go_num, by omega, by rw [HST.out]; exact HX.out.1, HX.out.2.1, HX.out.2.2.1, below_dn HX.out.2.2.2 _⟩
          case measure => simp [intOf]; omega
      · have hfin : aboveK rl M j = above rl M := by unfold aboveK above; rw [List.take_of_length_le (by omega)]
        rw [hfin] at HX g3
        have HLE := Lib.hid (show (above rl M).length ≤ rl.length from List.length_filter_le _ _)
        have hfit := decs_fit (above rl M) (fun d hd => HOK.out d (by unfold above at hd; exact (List.mem_filter.1 hd).1))
        have hslo : SlOf DecR wr 2 (.slice A5 (above rl M).length c5) (above rl M) := by
          refine hfit.slOf ?_
          rw [← List.flatMap_def]
          exact Sl.of_owns HX.out.1
        have HPUT := Lib.hid (ref14_put rs _ ⟨n, ep, M, above rl M⟩ A5 c5 wr (HR.out.below HX.out.2.2.2) hn HS.out hslo (by have := HLE.out; simp only; omega) ⟨⟨n1, n2⟩, ⟨e1, e2⟩, ⟨m1, m2⟩⟩)
        simp only at HPUT
        have g0 : wr.cell? ⟨w2.heap.size + 1, 0, none⟩ = some (.int .i64 n) := HX.out.2.2.1.cell 0
        have g1 : wr.cell? ⟨w2.heap.size + 1, 1, none⟩ = some (.int .i64 ep) := HX.out.2.2.1.cell 1
        have HBX := Lib.hid HX.out.2.2.2
        clear hslo hfit hfin HX k0 k1 k2 k3
        generalize (above rl M).length = len at *
        go_wp2_with fail
        refine HPUT.out.mono ?_
        rintro e w7 ⟨A7, c7, rfl, hri, hb7⟩
        have HRI := Lib.hid (And.intro hri (below_trans HBX.out hb7 HBX.out.size))
        clear hri hb7
        go_wp2_with fail
        refine bodyPost_ret (v := .tuple #[.slice A7 (putR rs ⟨n, ep, M, above rl M⟩).length c7, .int .i64 0]) (by simp [results, Try.results19, go_sem]) rfl ⟨A7, c7, rfl, HRI.out⟩
  · go_enter Try.func19, Try.ntmps19
    go_wp2_with fail
    refine HWY.out.mono ?_
    rintro e w1 ⟨rfl, rfl⟩
    go_wp2_with fail
    refine HPL.out.mono ?_
    rintro e w2 ⟨rfl, rfl⟩
    go_wp2_with fail
    rw [← HW2.out]
    go_loopw [13] (fun si wr => ∃ (j : Nat) (sl : Value), si = .int .i64 j ∧ j ≤ rl.length ∧ wr.ownsRow (w2.heap.size + 2) 65 2 sl (aboveK rl M j).length ((aboveK rl M j).flatMap decC) ∧ TBox wr w2.heap.size 63 #[.int .i64 n, .int .i64 ep, .int .i64 M, .slice A' rl.length c'] ∧ TBox wr (w2.heap.size + 1) 63 #[.int .i64 n, .int .i64 ep, .int .i64 M, sl] ∧ Below w2.heap.size w2 wr) (fun si _ => rl.length - (intOf si).toNat)
    case atStart => exact ⟨0, _, rfl, Nat.zero_le _, World.ownsRow_nil _ _ _ _, HT2.out, HG2.out, HB2.out⟩
    case round =>
      obtain ⟨j, sl, rfl, hj, hown, ht, hg, hb⟩ := hrel
      obtain ⟨A5, c5, rfl, -, -⟩ := (Sl.of_owns hown).shape
      have HX := Lib.hid (And.intro hown (And.intro ht (And.intro hg hb)))
      have q3 : wr.cell? ⟨w2.heap.size, 3, none⟩ = some (.slice A' rl.length c') := ht.cell 3
      have g2 : wr.cell? ⟨w2.heap.size + 1, 2, none⟩ = some (.int .i64 M) := hg.cell 2
      have g3 : wr.cell? ⟨w2.heap.size + 1, 3, none⟩ = some (.slice A5 (aboveK rl M j).length c5) := hg.cell 3
      have hsw : w2.heap.size + 1 < wr.heap.size := hg.lt
      clear hown ht hg hb
      by_cases hjl : j < rl.length
      · obtain ⟨b2, off2, rfl, hbk2, y0, y1, od⟩ := decs_at HSL.out j hjl
        have d0 := cell_keep HX.out.2.2.2 y0
        have d1 := cell_keep HX.out.2.2.2 y1
        have HYY := Lib.hid (And.intro y0 y1)
        clear y0 y1
        have hji : (j : Int) < (rl.length : Int) := by omega
        have hst := aboveK_step rl M j hjl
        have hle := aboveK_le rl M j
        have HD := Lib.hid od
        obtain ⟨z1, z2⟩ := od
        clear k0 k1 k2 k3
        generalize rl[j] = d at *
        obtain ⟨d0v, db⟩ := d
        simp only at d0 d1 hst z1 z2 HYY
        by_cases hd : M < d0v
        · rw [if_pos hd] at hst
          have HST := Lib.hid hst
          have hdd : decide (M < d0v) = true := by rw [decide_eq_true_iff]; omega
          clear hst
          go_wp2_with fail
          go_quiet (fail)
          obtain ⟨wq, hwq⟩ : ∃ wq, wq = wr.drewN nq := ⟨_, rfl⟩
          have q3' : wq.cell? ⟨w2.heap.size, 3, none⟩ = some (.slice (some ⟨b2, off2, none⟩) rl.length c') := by rw [hwq]; exact q3
          have g3' : wq.cell? ⟨w2.heap.size + 1, 3, none⟩ = some (.slice A5 (aboveK rl M j).length c5) := by rw [hwq]; exact g3
          have d0' : wq.cell? ⟨b2, off2 + j * 2, none⟩ = some (.int .i64 d0v) := by rw [hwq]; exact d0
          have d1' : wq.cell? ⟨b2, off2 + j * 2 + 1, none⟩ = some (.bool db) := by rw [hwq]; exact d1
          have HXQ := Lib.hid (show wq.ownsRow (w2.heap.size + 2) 65 2 (.slice A5 (aboveK rl M j).length c5) (aboveK rl M j).length ((aboveK rl M j).flatMap decC) ∧ TBox wq w2.heap.size 63 #[.int .i64 n, .int .i64 ep, .int .i64 M, .slice (some ⟨b2, off2, none⟩) rl.length c'] ∧ TBox wq (w2.heap.size + 1) 63 #[.int .i64 n, .int .i64 ep, .int .i64 M, .slice A5 (aboveK rl M j).length c5] ∧ Below w2.heap.size w2 wq ∧ wq.heap.size = wr.heap.size from by rw [hwq]; exact ⟨HX.out.1, HX.out.2.1, HX.out.2.2.1, below_dn HX.out.2.2.2 nq, rfl⟩)
          rw [← hwq]
          clear hwq q3 g3 g2 d0 d1 HX
          have hsq : w2.heap.size + 1 < wq.heap.size := by rw [HXQ.out.2.2.2.2]; exact hsw
          obtain ⟨v', w4, hrun, ho4, hk4, hs4, hb4⟩ := app_dec (w3 := wq.drew) (base := w2.heap.size + 2) (d0v, db) (show wq.drew.ownsRow _ _ _ _ _ _ from HXQ.out.1) (by omega) (show w2.heap.size + 2 ≤ wq.heap.size from hsq)
          obtain ⟨A6, c6, rfl, -, -⟩ := (Sl.of_owns ho4).shape
          have hk4' : ∀ b, b < w2.heap.size + 2 → w4.heap[b]? = wq.heap[b]? := hk4
          have t4 : TBox w4 w2.heap.size 63 #[.int .i64 n, .int .i64 ep, .int .i64 M, .slice (some ⟨b2, off2, none⟩) rl.length c'] := by
            have := HXQ.out.2.1
            unfold TBox at this ⊢
            rw [hk4' _ (by omega)]
            exact this
          have gg4 : TBox w4 (w2.heap.size + 1) 63 #[.int .i64 n, .int .i64 ep, .int .i64 M, .slice A5 (aboveK rl M j).length c5] := by
            have := HXQ.out.2.2.1
            unfold TBox at this ⊢
            rw [hk4' _ (by omega)]
            exact this
          have HB4 := Lib.hid (hb4 w2.heap.size w2 (below_dn HXQ.out.2.2.2.1 1) (by omega))
          have f4 : w4.frozen? ⟨w2.heap.size + 1, 3, none⟩ = false := gg4.free 3
          have x4 : w4.cell? ⟨w2.heap.size + 1, 3, none⟩ = some (.slice A5 (aboveK rl M j).length c5) := gg4.cell 3
          have HY := Lib.hid (And.intro ho4 (And.intro t4 gg4))
          have HD4 := Lib.hid (And.intro (cell_keep HB4.out HYY.out.1) (cell_keep HB4.out HYY.out.2))
          have hs6 : w2.heap.size + 1 < w4.heap.size := gg4.lt
          have hb6 : b2 < w2.heap.size ∨ True := .inr trivial
          have HC4 := Lib.hid (show w4.cell? ⟨w2.heap.size + 1, 3, none⟩ = some (.slice A5 (aboveK rl M j).length c5) ∧ w4.cell? ⟨w2.heap.size, 3, none⟩ = some (.slice (some ⟨b2, off2, none⟩) rl.length c') from ⟨x4, t4.cell 3⟩)
          clear ho4 hk4 hk4' hs4 hb4 t4 gg4 hb6
          obtain ⟨len, hlen⟩ : ∃ len, (aboveK rl M j).length = len := ⟨_, rfl⟩
          have HLEN := Lib.hid hlen
          rw [hlen] at HXQ hrun HY HC4 x4 g3' hle
          clear hlen
          go_wp2_with fail
          refine wp_region_z (S := fun V => V.cell? ⟨w2.heap.size + 1, 3, none⟩ = some (.slice A5 len c5) ∧ V.cell? ⟨w2.heap.size, 3, none⟩ = some (.slice (some ⟨b2, off2, none⟩) rl.length c') ∧ V.cell? ⟨b2, off2 + j * 2, none⟩ = some (.int .i64 d0v) ∧ V.cell? ⟨b2, off2 + j * 2 + 1, none⟩ = some (.bool db)) 10 (by kernel_rfl) (⟨g3', q3', d0', d1'⟩) (fun hHeld => ?_)
          refine wpAnyZ_take (i := 0) (v := ?_) rfl (by kernel_rfl) (fun _ _ _ h => h) (Or.inl ⟨by rfl, ?_⟩) (by assumption) ?_
          rotate_left
          · intro w hSw
            try dsimp only at hSw
            go_simp
            try with_reducible rfl
          rotate_left
          try simp only [Act.put, List.setIfInBounds_toArray, List.set_cons_zero, List.set_cons_succ, List.getElem_toArray, List.getElem_cons_zero, List.getElem_cons_succ]
          refine wpAnyZ_take (i := 1) (v := ?_) rfl (by kernel_rfl) (fun _ _ _ h => h) (Or.inl ⟨by rfl, ?_⟩) (by assumption) ?_
          rotate_left
          · intro w hSw
            try dsimp only at hSw
            go_simp
            try with_reducible rfl
          rotate_left
          try simp only [Act.put, List.setIfInBounds_toArray, List.set_cons_zero, List.set_cons_succ, List.getElem_toArray, List.getElem_cons_zero, List.getElem_cons_succ]
          refine wpAnyZ_take (i := 2) (v := ?_) rfl (by kernel_rfl) (fun _ _ _ h => h) (Or.inl ⟨by rfl, ?_⟩) (by assumption) ?_
          rotate_left
          · intro w hSw
            try dsimp only at hSw
            go_simp
            try with_reducible rfl
          rotate_left
          try simp only [Act.put, List.setIfInBounds_toArray, List.set_cons_zero, List.set_cons_succ, List.getElem_toArray, List.getElem_cons_zero, List.getElem_cons_succ]
          refine wpAnyZ_take (i := 3) (v := ?_) rfl (by kernel_rfl) (fun _ _ _ h => h) (Or.inl ⟨by rfl, ?_⟩) (by assumption) ?_
          rotate_left
          · intro w hSw
            try dsimp only at hSw
            go_simp
            try with_reducible rfl
          rotate_left
          try simp only [Act.put, List.setIfInBounds_toArray, List.set_cons_zero, List.set_cons_succ, List.getElem_toArray, List.getElem_cons_zero, List.getElem_cons_succ]
          refine wpAnyZ_take (i := 4) (v := ?_) rfl (by kernel_rfl) (fun _ _ _ h => h) (Or.inl ⟨by rfl, ?_⟩) (by assumption) ?_
          rotate_left
          · intro w hSw
            try dsimp only at hSw
            go_simp
            try with_reducible rfl
          rotate_left
          try simp only [Act.put, List.setIfInBounds_toArray, List.set_cons_zero, List.set_cons_succ, List.getElem_toArray, List.getElem_cons_zero, List.getElem_cons_succ]
          refine wpAnyZ_take (i := 5) (v := ?_) rfl (by kernel_rfl) (fun _ _ _ h => h) (Or.inl ⟨by rfl, ?_⟩) (by assumption) ?_
          rotate_left
          · intro w hSw
            try dsimp only at hSw
            go_simp
            try with_reducible rfl
          rotate_left
          try simp only [Act.put, List.setIfInBounds_toArray, List.set_cons_zero, List.set_cons_succ, List.getElem_toArray, List.getElem_cons_zero, List.getElem_cons_succ]
          refine wpAnyZ_take (i := 6) (v := ?_) rfl (by kernel_rfl) (fun _ _ _ h => h) (Or.inl ⟨by rfl, ?_⟩) (by assumption) ?_
          rotate_left
          · intro w hSw
            try dsimp only at hSw
            go_simp
            try with_reducible rfl
          rotate_left
          try simp only [Act.put, List.setIfInBounds_toArray, List.set_cons_zero, List.set_cons_succ, List.getElem_toArray, List.getElem_cons_zero, List.getElem_cons_succ]
          refine wpAnyZ_one (i := 7) (by kernel_rfl) rfl (fun K hK => ?_)
          rw [if_pos (by rfl)]
          go_wp2_with fail
          refine hK.out _ _ (⟨cell_alloc _ hHeld.1, cell_alloc _ hHeld.2.1, cell_alloc _ hHeld.2.2.1, cell_alloc _ hHeld.2.2.2⟩) (fun hHeld => ?_)
          clear hK K
          try simp only [Act.put, List.setIfInBounds_toArray, List.set_cons_zero, List.set_cons_succ, List.getElem_toArray, List.getElem_cons_zero, List.getElem_cons_succ]
          refine wpAnyZ_one (i := 8) (by kernel_rfl) rfl (fun K hK => ?_)
          refine step_append_run rfl _ _ _ rfl _ _ _ _ rfl rfl hrun ?_
          refine hK.out _ _ (⟨HC4.out.1, HC4.out.2, HD4.out.1, HD4.out.2⟩) (fun hHeld => ?_)
          clear hK K
          try simp only [Act.put, List.setIfInBounds_toArray, List.set_cons_zero, List.set_cons_succ, List.getElem_toArray, List.getElem_cons_zero, List.getElem_cons_succ]
          refine wpAnyZ_take (i := 9) (v := ?_) rfl (by kernel_rfl) (fun _ _ _ h => h) (Or.inl ⟨by rfl, ?_⟩) (by assumption) ?_
          rotate_left
          · intro w hSw
            try dsimp only at hSw
            go_simp
            try with_reducible rfl
          rotate_left
          try simp only [Act.put, List.setIfInBounds_toArray, List.set_cons_zero, List.set_cons_succ, List.getElem_toArray, List.getElem_cons_zero, List.getElem_cons_succ]
          refine wpAnyZ_last (by kernel_rfl) rfl (fun K hK => ?_)
          rw [if_pos (by rfl)]
          go_wp2_with fail
          refine hK.out _ _ ?_
          clear hK K
          try simp only [Act.put, List.setIfInBounds_toArray, List.set_cons_zero, List.set_cons_succ, List.getElem_toArray, List.getElem_cons_zero, List.getElem_cons_succ]
          refine wpAnyZ_done (by kernel_rfl) ?_ _
          obtain ⟨W6, hW6⟩ : ∃ W6, W6 = w4.setCell ⟨w2.heap.size + 1, 3, none⟩ (.slice A6 (len + 1) c6) := ⟨_, rfl⟩
          rw [← hW6]
          have HZ := Lib.hid (show W6.ownsRow (w2.heap.size + 2) 65 2 (.slice A6 (len + 1) c6) (len + 1) ((aboveK rl M j).flatMap decC ++ decC (d0v, db)) ∧ TBox W6 w2.heap.size 63 #[.int .i64 n, .int .i64 ep, .int .i64 M, .slice (some ⟨b2, off2, none⟩) rl.length c'] ∧ TBox W6 (w2.heap.size + 1) 63 #[.int .i64 n, .int .i64 ep, .int .i64 M, .slice A6 (len + 1) c6] ∧ Below w2.heap.size w2 W6 from by
            rw [hW6]
            exact ⟨owns_setCell HY.out.1 _ _ (by simp), HY.out.2.1.far _ _ _ (by omega), HY.out.2.2.set 3 _, HB4.out.setCell (p := ⟨w2.heap.size + 1, 3, none⟩) (Nat.le_succ _) _⟩)
          clear hW6 hHeld x4 f4 q3' g3' d0' d1' hrun
          go_wp2_with fail
          go_roundw
          case rel => exact ⟨j + 1, _, by go_num, by omega, by rw [HST.out, List.length_append, List.flatMap_append, HLEN.out]; simpa using HZ.out.1, HZ.out.2.1, HZ.out.2.2.1, HZ.out.2.2.2⟩
          case measure => simp [intOf]; omega
        · rw [if_neg hd] at hst
          have HST := Lib.hid hst
          have hdd : decide (M < d0v) = false := by rw [decide_eq_false_iff_not]; omega
          clear hst
          go_wp2_with fail
          go_quiet (fail)
          go_wp2_with fail
          go_roundw
          case rel => exact ⟨j + 1, _, by go_num, by omega, by rw [HST.out]; exact HX.out.1, HX.out.2.1, HX.out.2.2.1, below_dn HX.out.2.2.2 _⟩
          case measure => simp [intOf]; omega
      · have hfin : aboveK rl M j = above rl M := by unfold aboveK above; rw [List.take_of_length_le (by omega)]
        rw [hfin] at HX g3
        have HLE := Lib.hid (show (above rl M).length ≤ rl.length from List.length_filter_le _ _)
        have hfit := decs_fit (above rl M) (fun d hd => HOK.out d (by unfold above at hd; exact (List.mem_filter.1 hd).1))
        have hslo : SlOf DecR wr 2 (.slice A5 (above rl M).length c5) (above rl M) := by
          refine hfit.slOf ?_
          rw [← List.flatMap_def]
          exact Sl.of_owns HX.out.1
        have HPUT := Lib.hid (ref14_put rs _ ⟨n, ep, M, above rl M⟩ A5 c5 wr (HR.out.below HX.out.2.2.2) hn HS.out hslo (by have := HLE.out; simp only; omega) ⟨⟨n1, n2⟩, ⟨e1, e2⟩, ⟨m1, m2⟩⟩)
        simp only at HPUT
        have g0 : wr.cell? ⟨w2.heap.size + 1, 0, none⟩ = some (.int .i64 n) := HX.out.2.2.1.cell 0
        have g1 : wr.cell? ⟨w2.heap.size + 1, 1, none⟩ = some (.int .i64 ep) := HX.out.2.2.1.cell 1
        have HBX := Lib.hid HX.out.2.2.2
        clear hslo hfit hfin HX k0 k1 k2 k3
        generalize (above rl M).length = len at *
        go_wp2_with fail
        refine HPUT.out.mono ?_
        rintro e w7 ⟨A7, c7, rfl, hri, hb7⟩
        have HRI := Lib.hid (And.intro hri (below_trans HBX.out hb7 HBX.out.size))
        clear hri hb7
        go_wp2_with fail
        refine bodyPost_ret (v := .tuple #[.slice A7 (putR rs ⟨n, ep, M, above rl M⟩).length c7, .int .i64 0]) (by simp [results, Try.results19, go_sem]) rfl ⟨A7, c7, rfl, HRI.out⟩
end Go.Proofs.Ythnajmfbomedlaa

