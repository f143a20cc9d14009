/- Rows of replies: copyholdref11.All, and slices.EqualFunc by ops.Same, tell whether two are the same. Old memory is as it was. -/
import Derived.Test.YtpdedjbkfcaebaaCliEq
import Derived.Deep.RegionHeld3
set_option linter.unusedVariables false
set_option linter.unusedSimpArgs false
namespace Go.Proofs.Ytpdedjbkfcaebaa
open Go.RowKit Copyhold
set_option maxRecDepth 100000 in
set_option maxHeartbeats 4000000 in
theorem reps_EqualFunc (a b : List Rep) (v u : Value) (w : World) (ha : RepsIn w v a) (hb : RepsIn w u b) (na : a.length ≤ 8796093022207) (nb : b.length ≤ 8796093022207) :
    Calls Try.prog 35 #[v, u, .func (.func 36) #[] #[]] w fun e w' => e = .returned (.bool (decide (a = b))) ∧ Below w.heap.size w w' := by
  obtain ⟨A, c, rfl⟩ := SlOf.shape ha
  obtain ⟨B, d, rfl⟩ := SlOf.shape hb
  have HA := Lib.hid ha
  have HB := Lib.hid hb
  clear ha hb
  by_cases hle : a.length = b.length
  · have hl1 : ((a.length : Int) != (b.length : Int)) = false := by rw [hle]; simp
    have HLE := Lib.hid hle
    clear hle
    go_enter Try.func35, Try.ntmps35
    go_wp2_with fail
    go_loopw [17] (fun si wr => ∃ k : Nat, si = .int .i64 k ∧ k ≤ a.length ∧ a.take k = b.take k ∧ Below w.heap.size w wr) (fun si _ => a.length - (intOf si).toNat)
    case atStart => exact ⟨0, rfl, Nat.zero_le _, by simp, Below.refl _ _⟩
    case round =>
      obtain ⟨k, rfl, hk, hp, hb⟩ := hrel
      have HP := Lib.hid (And.intro hp hb)
      have hbs := hb.size
      clear hp hl1 hb
      by_cases hlt : k < a.length
      · have hlt' : k < b.length := by have := HLE.out; omega
        have hi1 : (k : Int) < (a.length : Int) := by omega
        have hi2 : (k : Int) < (b.length : Int) := by omega
        have HST := Lib.hid (fun h => take_more HP.out.1 hlt hlt' h)
        have HNO := Lib.hid (fun h => (decide_eq_false (getE_ne hlt hlt' h) : decide (a = b) = false))
        obtain ⟨b1, o1, A1, c1, rfl, hb1, k0, k1, k2, k3, k4, k5, hs1, ok1⟩ := (HA.out.below HP.out.2).at k hlt
        obtain ⟨b2, o2, A2, c2, rfl, hb2, m0, m1, m2, m3, m4, m5, hs2, ok2⟩ := (HB.out.below HP.out.2).at k hlt'
        generalize a[k] = x at *
        generalize b[k] = y at *
        obtain ⟨W3, hW3⟩ : ∃ W3, W3 = (wr.alloc (.cells #[.int .i64 x.e, .int .i64 x.a, .int .i64 x.b, .int .i64 x.n, .string ⟨x.t.toArray⟩, .slice A1 x.ns.length c1] 30)).alloc (.cells #[.int .i64 y.e, .int .i64 y.a, .int .i64 y.b, .int .i64 y.n, .string ⟨y.t.toArray⟩, .slice A2 y.ns.length c2] 30) := ⟨_, rfl⟩
        have hb3 : Below wr.heap.size wr W3 := by rw [hW3]; exact ((Below.refl _ _).alloc (Nat.le_refl _) _).alloc (by simp) _
        have HC := Lib.hid (ops_Same x y A1 A2 c1 c2 W3 (hs1.below hb3) (hs2.below hb3) (Nat.le_trans ok1.2.2.1 (by omega)) (Nat.le_trans ok2.2.2.1 (by omega)))
        have HB3 := Lib.hid (below_trans HP.out.2 hb3 hbs)
        have HW3 := Lib.hid hW3
        clear hs1 hs2 ok1 ok2 hW3 hb3
        go_wp2_with fail
        rw [← HW3.out]
        refine HC.out.mono ?_
        rintro e w4 ⟨rfl, hb4⟩
        have HB4 := Lib.hid (below_trans HB3.out hb4 HB3.out.size)
        clear hb4
        by_cases hrow : x = y
        · rw [decide_eq_true hrow]
          have HN := Lib.hid (HST.out hrow)
          clear hrow HNO HST
          go_wp2_with fail
          go_roundw
          case rel => exact ⟨k + 1, by go_num, by omega, HN.out, HB4.out⟩
          case measure => simp [intOf]; omega
        · rw [decide_eq_false hrow]
          have HF := Lib.hid (HNO.out hrow)
          clear hrow HNO HST
          go_wp2_with fail
          go_ret
          exact ⟨by rw [HF.out]; rfl, HB4.out⟩
      · have HF : Hid (decide (a = b) = true) := Lib.hid (decide_eq_true (take_all HP.out.1 (by omega) HLE.out))
        go_wp2_with fail
        go_ret
        exact ⟨by rw [HF.out]; rfl, HP.out.2⟩
  · have hl1 : ((a.length : Int) != (b.length : Int)) = true := by rw [bne_iff_ne]; omega
    have HF := Lib.hid (decide_eq_false (fun h => hle (by rw [h])) : decide (a = b) = false)
    clear hle
    go_enter Try.func35, Try.ntmps35
    go_wp2_with fail
    go_ret
    exact ⟨by rw [HF.out]; rfl, Below.refl _ _⟩
set_option maxRecDepth 100000 in
set_option maxHeartbeats 4000000 in
theorem ref11_All (a b : List Rep) (v u : Value) (w : World) (ha : RepsIn w v a) (hb : RepsIn w u b) (na : a.length ≤ 8796093022207) (nb : b.length ≤ 8796093022207) :
    Calls Try.prog 26 #[v, u] w fun e w' => e = .returned (.bool (decide (a = b))) ∧ Below w.heap.size w w' := by
  obtain ⟨A, c, rfl⟩ := SlOf.shape ha
  obtain ⟨B, d, rfl⟩ := SlOf.shape hb
  have HA := Lib.hid ha
  have HB := Lib.hid hb
  clear ha hb
  by_cases hle : a.length = b.length
  · have hl1 : ((a.length : Int) != (b.length : Int)) = false := by rw [hle]; simp
    have HLE := Lib.hid hle
    clear hle
    go_enter Try.func26, Try.ntmps26
    go_wp2_with fail
    go_loopw [5] (fun si wr => ∃ k : Nat, si = .int .i64 k ∧ k ≤ a.length ∧ a.take k = b.take k ∧ Below w.heap.size w wr) (fun si _ => a.length - (intOf si).toNat)
    case atStart => exact ⟨0, rfl, Nat.zero_le _, by simp, Below.refl _ _⟩
    case round =>
      obtain ⟨k, rfl, hk, hp, hb⟩ := hrel
      have HP := Lib.hid (And.intro hp hb)
      have hbs := hb.size
      clear hp hl1 hb
      by_cases hlt : k < a.length
      · have hlt' : k < b.length := by have := HLE.out; omega
        have hi1 : (k : Int) < (a.length : Int) := by omega
        have hi2 : (k : Int) < (b.length : Int) := by omega
        have HST := Lib.hid (fun h => take_more HP.out.1 hlt hlt' h)
        have HNO := Lib.hid (fun h => (decide_eq_false (getE_ne hlt hlt' h) : decide (a = b) = false))
        obtain ⟨b1, o1, A1, c1, rfl, hb1, k0, k1, k2, k3, k4, k5, hs1, ok1⟩ := (HA.out.below HP.out.2).at k hlt
        obtain ⟨b2, o2, A2, c2, rfl, hb2, m0, m1, m2, m3, m4, m5, hs2, ok2⟩ := (HB.out.below HP.out.2).at k hlt'
        generalize a[k] = x at *
        generalize b[k] = y at *
        have HC := Lib.hid (fun W (hb3 : Below wr.heap.size wr W) => ref11_Same x y A1 A2 c1 c2 W (hs1.below hb3) (hs2.below hb3) (Nat.le_trans ok1.2.2.1 (by omega)) (Nat.le_trans ok2.2.2.1 (by omega)))
        clear hs1 hs2 ok1 ok2
        go_wp2_with fail
        refine wp_region_held_drew (S := fun V => Below wr.heap.size wr V) (by kernel_rfl) (below_dn (Below.refl _ _) 1) (fun hHeld => ?_)
        refine wpAnyH_take (i := 0) (v := ?_) rfl (by kernel_rfl) (by kernel_rfl) (by kernel_rfl) (fun _ _ _ h => h) (Or.inl ⟨by rfl, ?_⟩) (by assumption) ?_
        rotate_left
        · intro X hSw
          go_simp
          try with_reducible rfl
        rotate_left
        try simp only [Act.put, List.setIfInBounds_toArray, List.set_cons_zero, List.set_cons_succ, List.getElem_toArray, List.getElem_cons_zero, List.getElem_cons_succ]
        refine wpAnyH_take (i := 1) (v := ?_) rfl (by kernel_rfl) (by kernel_rfl) (by kernel_rfl) (fun _ _ _ h => h) (Or.inl ⟨by rfl, ?_⟩) (by assumption) ?_
        rotate_left
        · intro X hSw
          go_simp
          try with_reducible rfl
        rotate_left
        try simp only [Act.put, List.setIfInBounds_toArray, List.set_cons_zero, List.set_cons_succ, List.getElem_toArray, List.getElem_cons_zero, List.getElem_cons_succ]
        refine wpAnyH_take (i := 2) (v := ?_) rfl (by kernel_rfl) (by kernel_rfl) (by kernel_rfl) (fun _ _ _ h => h) (Or.inl ⟨by rfl, ?_⟩) (by assumption) ?_
        rotate_left
        · intro X hSw
          go_simp
          try with_reducible rfl
        rotate_left
        try simp only [Act.put, List.setIfInBounds_toArray, List.set_cons_zero, List.set_cons_succ, List.getElem_toArray, List.getElem_cons_zero, List.getElem_cons_succ]
        refine wpAnyH_take (i := 3) (v := ?_) rfl (by kernel_rfl) (by kernel_rfl) (by kernel_rfl) (fun _ _ _ h => h) (Or.inl ⟨by rfl, ?_⟩) (by assumption) ?_
        rotate_left
        · intro X hSw
          have hc0 : X.cell? ⟨b1, o1 + k * 6, none⟩ = some (.int .i64 x.e) := cell_keep hSw k0
          have hc1 : X.cell? ⟨b1, o1 + k * 6 + 1, none⟩ = some (.int .i64 x.a) := cell_keep hSw k1
          have hc2 : X.cell? ⟨b1, o1 + k * 6 + 2, none⟩ = some (.int .i64 x.b) := cell_keep hSw k2
          have hc3 : X.cell? ⟨b1, o1 + k * 6 + 3, none⟩ = some (.int .i64 x.n) := cell_keep hSw k3
          have hc4 : X.cell? ⟨b1, o1 + k * 6 + 4, none⟩ = some (.string ⟨x.t.toArray⟩) := cell_keep hSw k4
          have hc5 : X.cell? ⟨b1, o1 + k * 6 + 5, none⟩ = some (.slice A1 x.ns.length c1) := cell_keep hSw k5
          go_simp
          try with_reducible rfl
        rotate_left
        try simp only [Act.put, List.setIfInBounds_toArray, List.set_cons_zero, List.set_cons_succ, List.getElem_toArray, List.getElem_cons_zero, List.getElem_cons_succ]
        refine wpAnyH_take (i := 4) (v := ?_) rfl (by kernel_rfl) (by kernel_rfl) (by kernel_rfl) (fun _ _ _ h => h) (Or.inl ⟨by rfl, ?_⟩) (by assumption) ?_
        rotate_left
        · intro X hSw
          go_simp
          try with_reducible rfl
        rotate_left
        try simp only [Act.put, List.setIfInBounds_toArray, List.set_cons_zero, List.set_cons_succ, List.getElem_toArray, List.getElem_cons_zero, List.getElem_cons_succ]
        refine wpAnyH_take (i := 5) (v := ?_) rfl (by kernel_rfl) (by kernel_rfl) (by kernel_rfl) (fun _ _ _ h => h) (Or.inl ⟨by rfl, ?_⟩) (by assumption) ?_
        rotate_left
        · intro X hSw
          go_simp
          try with_reducible rfl
        rotate_left
        try simp only [Act.put, List.setIfInBounds_toArray, List.set_cons_zero, List.set_cons_succ, List.getElem_toArray, List.getElem_cons_zero, List.getElem_cons_succ]
        refine wpAnyH_take (i := 6) (v := ?_) rfl (by kernel_rfl) (by kernel_rfl) (by kernel_rfl) (fun _ _ _ h => h) (Or.inl ⟨by rfl, ?_⟩) (by assumption) ?_
        rotate_left
        · intro X hSw
          go_simp
          try with_reducible rfl
        rotate_left
        try simp only [Act.put, List.setIfInBounds_toArray, List.set_cons_zero, List.set_cons_succ, List.getElem_toArray, List.getElem_cons_zero, List.getElem_cons_succ]
        refine wpAnyH_take (i := 7) (v := ?_) rfl (by kernel_rfl) (by kernel_rfl) (by kernel_rfl) (fun _ _ _ h => h) (Or.inl ⟨by rfl, ?_⟩) (by assumption) ?_
        rotate_left
        · intro X hSw
          have hc0 : X.cell? ⟨b2, o2 + k * 6, none⟩ = some (.int .i64 y.e) := cell_keep hSw m0
          have hc1 : X.cell? ⟨b2, o2 + k * 6 + 1, none⟩ = some (.int .i64 y.a) := cell_keep hSw m1
          have hc2 : X.cell? ⟨b2, o2 + k * 6 + 2, none⟩ = some (.int .i64 y.b) := cell_keep hSw m2
          have hc3 : X.cell? ⟨b2, o2 + k * 6 + 3, none⟩ = some (.int .i64 y.n) := cell_keep hSw m3
          have hc4 : X.cell? ⟨b2, o2 + k * 6 + 4, none⟩ = some (.string ⟨y.t.toArray⟩) := cell_keep hSw m4
          have hc5 : X.cell? ⟨b2, o2 + k * 6 + 5, none⟩ = some (.slice A2 y.ns.length c2) := cell_keep hSw m5
          go_simp
          try with_reducible rfl
        rotate_left
        try simp only [Act.put, List.setIfInBounds_toArray, List.set_cons_zero, List.set_cons_succ, List.getElem_toArray, List.getElem_cons_zero, List.getElem_cons_succ]
        refine wpAnyH_ready (rs := [8]) (by kernel_rfl) (by simp) ?_
        refine (AllReadyH.cons rfl (fun K hK => ?_) AllReadyH.nil)
        rw [if_pos (by rfl)]
        go_wp2_with fail
        refine (HC.out _ hHeld).mono ?_
        rintro e wq ⟨rfl, hb⟩
        replace hHeld := below_trans hHeld hb (Below.size hHeld)
        clear hb
        refine hK.out _ _ hHeld (fun _ => ?_)
        clear hK K
        try simp only [Act.put, List.setIfInBounds_toArray, List.set_cons_zero, List.set_cons_succ, List.getElem_toArray, List.getElem_cons_zero, List.getElem_cons_succ]
        refine wpAnyH_take (i := 9) (v := ?_) rfl (by kernel_rfl) (by kernel_rfl) (by kernel_rfl) (fun _ _ _ h => h) (Or.inl ⟨by rfl, ?_⟩) (by assumption) ?_
        rotate_left
        · intro X hSw
          go_simp
          try with_reducible rfl
        rotate_left
        try simp only [Act.put, List.setIfInBounds_toArray, List.set_cons_zero, List.set_cons_succ, List.getElem_toArray, List.getElem_cons_zero, List.getElem_cons_succ]
        refine wpAnyH_done (by kernel_rfl) ?_ _
        have HB4 := Lib.hid (below_trans HP.out.2 hHeld hbs)
        clear hHeld
        by_cases hrow : x = y
        · rw [decide_eq_true hrow]
          have HN := Lib.hid (HST.out hrow)
          clear hrow HNO HST
          go_wp2_with fail
          go_roundw
          case rel => exact ⟨k + 1, by go_num, by omega, HN.out, HB4.out⟩
          case measure => simp [intOf]; omega
        · rw [decide_eq_false hrow]
          have HF := Lib.hid (HNO.out hrow)
          clear hrow HNO HST
          go_wp2_with fail
          go_ret
          exact ⟨by rw [HF.out]; rfl, HB4.out⟩
      · have HF : Hid (decide (a = b) = true) := Lib.hid (decide_eq_true (take_all HP.out.1 (by omega) HLE.out))
        go_wp2_with fail
        go_ret
        exact ⟨by rw [HF.out]; rfl, HP.out.2⟩
  · have hl1 : ((a.length : Int) != (b.length : Int)) = true := by rw [bne_iff_ne]; omega
    have HF := Lib.hid (decide_eq_false (fun h => hle (by rw [h])) : decide (a = b) = false)
    clear hle
    go_enter Try.func26, Try.ntmps26
    go_wp2_with fail
    go_ret
    exact ⟨by rw [HF.out]; rfl, Below.refl _ _⟩
end Go.Proofs.Ytpdedjbkfcaebaa
