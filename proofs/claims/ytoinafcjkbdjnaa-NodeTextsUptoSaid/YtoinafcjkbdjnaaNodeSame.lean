/- slices.Equal at entries, node.Same: they answer as the document says; old memory is as it was. -/
import Derived.Test.YtoinafcjkbdjnaaNodeMem
import Derived.Test.YtoinafcjkbdjnaaArr3
set_option linter.unusedVariables false
set_option linter.unusedSimpArgs false
namespace Go.Proofs.Ytoinafcjkbdjnaa
open Go.RowKit Copyhold Copyhold.Name

set_option maxHeartbeats 4000000 in
theorem ents_Equal (a b : List Ent) (A B : Option Addr) (c d : Nat) (w : World) (ha : Ents w (.slice A a.length c) a) (hb : Ents w (.slice B b.length d) b) (hn : a.length ≤ 5864062014634) (hm : b.length ≤ 5864062014634) :
    Calls Try.prog 39 #[.slice A a.length c, .slice B b.length d] w fun e w' => e = .returned (.bool (a == b)) ∧ ∃ n, w' = w.drewN n := by
  have HA := Lib.hid ha
  have HB := Lib.hid hb
  clear ha hb
  by_cases hle : a.length = b.length
  · have hl1 : ((a.length : Int) != (b.length : Int)) = false := by rw [hle]; simp
    have HLE := Lib.hid hle
    clear hle
    go_enter Try.func39, Try.ntmps39
    go_wp2_with fail
    go_loopw [13] (fun si wr => ∃ k n : Nat, si = .int .i64 k ∧ k ≤ a.length ∧ a.take k = b.take k ∧ wr = w.drewN n) (fun si _ => a.length - (intOf si).toNat)
    case atStart => exact ⟨0, 0, rfl, Nat.zero_le _, by simp, rfl⟩
    case round =>
      obtain ⟨k, n, rfl, hk, hp, rfl⟩ := hrel
      have HP := Lib.hid hp
      clear hp
      by_cases hlt : k < a.length
      · have hlt' : k < b.length := by have := HLE.out; omega
        obtain ⟨b1, o1, rfl, _, _, c1, c2⟩ := HA.out.at k hlt
        obtain ⟨b2, o2, rfl, _, _, c3, c4⟩ := HB.out.at k hlt'
        have hi1 : (k : Int) < (a.length : Int) := by omega
        have hi2 : (k : Int) < (b.length : Int) := by omega
        have hst : a[k] = b[k] → a.take (k + 1) = b.take (k + 1) := fun h => by
          rw [List.take_succ_eq_append_getElem hlt, List.take_succ_eq_append_getElem hlt', HP.out, h]
        have hno : a[k] ≠ b[k] → (a == b) = false := fun h => by
          rw [beq_eq_false_iff_ne]
          rintro rfl
          exact h rfl
        have HST := Lib.hid hst
        have HNO := Lib.hid hno
        clear hst hno
        generalize a[k] = x at *
        generalize b[k] = y at *
        obtain ⟨x1, x2⟩ := x
        obtain ⟨y1, y2⟩ := y
        simp only at c1 c2 c3 c4
        by_cases h1 : x1 = y1
        · subst h1
          by_cases h2 : x2 = y2
          · subst h2
            have HS := Lib.hid (HST.out rfl)
            go_wp2_with fail
            go_quiet (fail)
            go_wp2_with fail
            go_roundw
            case rel => exact ⟨k + 1, _, by go_num, by omega, HS.out, rfl⟩
            case measure => simp [intOf]; omega
          · have HS := Lib.hid (HNO.out (by simpa using h2))
            have hq : (x2 == y2) = false := by simpa using h2
            clear h2
            go_wp2_with fail
            go_quiet (fail)
            go_wp2_with fail
            go_ret
            exact ⟨by rw [HS.out]; rfl, _, World.drewN_drewN _ _ _⟩
        · have HS := Lib.hid (HNO.out (by simp [h1]))
          have hq : (x1 == y1) = false := by simpa using h1
          clear h1
          go_wp2_with fail
          go_quiet (fail)
          go_wp2_with fail
          go_ret
          exact ⟨by rw [HS.out]; rfl, _, World.drewN_drewN _ _ _⟩
      · have hfin : (a == b) = true := by
          have := HP.out
          rw [List.take_of_length_le (by omega), List.take_of_length_le (by have := HLE.out; omega)] at this
          simpa using this
        have HF := Lib.hid hfin
        clear hfin
        go_wp2_with fail
        go_ret
        exact ⟨by rw [HF.out]; rfl, _, rfl⟩
  · have hl1 : ((a.length : Int) != (b.length : Int)) = true := by rw [bne_iff_ne]; omega
    have hfin : (a == b) = false := by
      rw [beq_eq_false_iff_ne]
      rintro rfl
      exact hle rfl
    have HF := Lib.hid hfin
    clear hfin hle
    go_enter Try.func39, Try.ntmps39
    go_wp2_with fail
    go_ret
    exact ⟨by rw [HF.out]; rfl, 0, rfl⟩

set_option maxHeartbeats 2000000 in
theorem numbers_of (a b c : Int) (s : List UInt8) (A : Option Addr) (n d : Nat) (w : World) :
    Calls Try.prog 38 #[.agg #[.int .i64 a, .int .i64 b, .int .i64 c, .string ⟨s.toArray⟩, .slice A n d]] w fun e w' => e = .returned (.agg #[.int .i64 a, .int .i64 b, .int .i64 c]) ∧ Below w.heap.size w w' := by
  go_enter Try.func38, Try.ntmps38
  go_wp2_with fail
  refine bodyPost_ret (v := .agg #[.int .i64 a, .int .i64 b, .int .i64 c]) (by simp [results, Try.results38, go_sem]) rfl ⟨rfl, ?_⟩
  exact ((Below.refl _ _).alloc (Nat.le_refl _) _).alloc (by simp) _

set_option maxRecDepth 100000 in
set_option maxHeartbeats 8000000 in
theorem node_Same (a b : Nd) (v u : Value) (w : World) (hv : NodeV w v a) (hu : NodeV w u b) (ha : OkN a) (hb : OkN b) :
    Calls Try.prog 20 #[v, u] w fun e w' => e = .returned (.bool (sameN a b)) ∧ Below w.heap.size w w' := by
  obtain ⟨A, c, rfl, hE⟩ := hv
  obtain ⟨B, d, rfl, hF⟩ := hu
  obtain ⟨i1, k1, l1, t1, e1⟩ := a
  obtain ⟨i2, k2, l2, t2, e2⟩ := b
  have hla := ha.2.2.2.2.2
  have hlb := hb.2.2.2.2.2
  simp only at hla hlb hE hF ⊢
  clear ha hb
  obtain ⟨W0, hW0⟩ : ∃ W0, W0 = (w.alloc (.cells #[.int .i64 i1, .int .i64 k1, .int .i64 l1, .string ⟨t1.toArray⟩, .slice A e1.length c] 24)).alloc (.cells #[.int .i64 i2, .int .i64 k2, .int .i64 l2, .string ⟨t2.toArray⟩, .slice B e2.length d] 24) := ⟨_, rfl⟩
  have hb0 : Below w.heap.size w W0 := by rw [hW0]; exact ((Below.refl _ _).alloc (Nat.le_refl _) _).alloc (by simp) _
  have hcA : ∀ j, W0.cell? ⟨w.heap.size, j, none⟩ = (#[.int .i64 i1, .int .i64 k1, .int .i64 l1, .string ⟨t1.toArray⟩, .slice A e1.length c] : Array Value)[j]? := fun j => by
    rw [hW0, ← cell_new w _ 24 j]
    exact World.cell?_alloc_lt _ _ _ (by simp)
  have hcB : ∀ j, W0.cell? ⟨w.heap.size + 1, j, none⟩ = (#[.int .i64 i2, .int .i64 k2, .int .i64 l2, .string ⟨t2.toArray⟩, .slice B e2.length d] : Array Value)[j]? := fun j => by
    have := cell_new (w.alloc (.cells #[.int .i64 i1, .int .i64 k1, .int .i64 l1, .string ⟨t1.toArray⟩, .slice A e1.length c] 24)) #[.int .i64 i2, .int .i64 k2, .int .i64 l2, .string ⟨t2.toArray⟩, .slice B e2.length d] 24 j
    rw [World.size_alloc] at this
    rw [hW0, this]
  have p0 := hcA 0
  have p1 := hcA 1
  have p2 := hcA 2
  have p3 := hcA 3
  have p4 := hcA 4
  have q0 := hcB 0
  have q1 := hcB 1
  have q2 := hcB 2
  have q3 := hcB 3
  have q4 := hcB 4
  simp only [List.getElem?_toArray, List.getElem?_cons_zero, List.getElem?_cons_succ] at p0 p1 p2 p3 p4 q0 q1 q2 q3 q4
  have HE := Lib.hid (fun W (h : Below w.heap.size w W) => ents_Equal e1 e2 A B c d W (hE.below h) (hF.below h) hla hlb)
  have HW := Lib.hid hW0
  clear hE hF hW0 hcA hcB
  by_cases h1 : i1 = i2 ∧ k1 = k2 ∧ l1 = l2
  · obtain ⟨rfl, rfl, rfl⟩ := h1
    have harr : ∀ W, (Op.equalIn 10000 61 (.agg #[.int .i64 i1, .int .i64 k1, .int .i64 l1]) (.agg #[.int .i64 i1, .int .i64 k1, .int .i64 l1])).run Try.prog W = .ok true W := fun W => by rw [run_arr3]; simp
    by_cases h2 : t1 = t2
    · subst h2
      have H : Hid (sameN ⟨i1, k1, l1, t1, e1⟩ ⟨i1, k1, l1, t1, e2⟩ = (e1 == e2)) := Lib.hid (by simp [sameN])
      generalize (e1 == e2) = r at *
      go_enter Try.func20, Try.ntmps20
      go_wp2_with fail
      rw [← HW.out]
      have hb00 := below_dn hb0 1
      first | (go_region_held3 (fun W => W.cell? ⟨w.heap.size, 0, none⟩ = some (.int .i64 i1) ∧ W.cell? ⟨w.heap.size, 1, none⟩ = some (.int .i64 k1) ∧ W.cell? ⟨w.heap.size, 2, none⟩ = some (.int .i64 l1) ∧ W.cell? ⟨w.heap.size, 3, none⟩ = some (.string ⟨t1.toArray⟩) ∧ W.cell? ⟨w.heap.size, 4, none⟩ = some (.slice A e1.length c) ∧ W.cell? ⟨w.heap.size + 1, 0, none⟩ = some (.int .i64 i1) ∧ W.cell? ⟨w.heap.size + 1, 1, none⟩ = some (.int .i64 k1) ∧ W.cell? ⟨w.heap.size + 1, 2, none⟩ = some (.int .i64 l1) ∧ W.cell? ⟨w.heap.size + 1, 3, none⟩ = some (.string ⟨t1.toArray⟩) ∧ W.cell? ⟨w.heap.size + 1, 4, none⟩ = some (.slice B e2.length d) ∧ Below w.heap.size w W) (first | (go_keep; done) | (go_split_ands; refine ⟨?_, ?_, ?_, ?_, ?_, ?_, ?_, ?_, ?_, ?_, ?_⟩; all_goals first | exact cell_keep hb7 (by assumption) | exact below_trans (by assumption) hb7 (Below.size (by assumption)) | exact hb00 | assumption | exact Below.alloc (by assumption) (Below.size (by assumption)) _ | exact cell_alloc _ (by assumption))) (first | (go_at_call 38; refine (numbers_of _ _ _ _ _ _ _ _).mono ?_; rintro e w7 ⟨rfl, hb7⟩) | (go_at_call 39; go_split_ands; have hq8 : Below w.heap.size w w7 := (by assumption); refine (HE.out w7 hq8).mono ?_; rintro e w8 ⟨rfl, nq, rfl⟩; have hb7 := below_dn (Below.refl w7.heap.size w7) nq))) | fail "no region"
      all_goals
        go_wp2_with fail
        go_ret
        exact ⟨by rw [H.out]; rfl, by go_split_ands; assumption⟩
    · have H : Hid (sameN ⟨i1, k1, l1, t1, e1⟩ ⟨i1, k1, l1, t2, e2⟩ = false) := Lib.hid (by simp [sameN, h2])
      have hq : (t1 == t2) = false := by simpa using h2
      clear h2
      go_enter Try.func20, Try.ntmps20
      go_wp2_with fail
      rw [← HW.out]
      have hb00 := below_dn hb0 1
      refine wp_region_held_drew (S := fun W => W.cell? ⟨w.heap.size, 0, none⟩ = some (.int .i64 i1) ∧ W.cell? ⟨w.heap.size, 1, none⟩ = some (.int .i64 k1) ∧ W.cell? ⟨w.heap.size, 2, none⟩ = some (.int .i64 l1) ∧ W.cell? ⟨w.heap.size, 3, none⟩ = some (.string ⟨t1.toArray⟩) ∧ W.cell? ⟨w.heap.size, 4, none⟩ = some (.slice A e1.length c) ∧ W.cell? ⟨w.heap.size + 1, 0, none⟩ = some (.int .i64 i1) ∧ W.cell? ⟨w.heap.size + 1, 1, none⟩ = some (.int .i64 k1) ∧ W.cell? ⟨w.heap.size + 1, 2, none⟩ = some (.int .i64 l1) ∧ W.cell? ⟨w.heap.size + 1, 3, none⟩ = some (.string ⟨t2.toArray⟩) ∧ W.cell? ⟨w.heap.size + 1, 4, none⟩ = some (.slice B e2.length d) ∧ Below w.heap.size w W) (by kernel_rfl) ⟨p0, p1, p2, p3, p4, q0, q1, q2, q3, q4, hb00⟩ (fun hHeld => ?_)
      refine wpAnyH_take (i := 0) (v := ?_) rfl (by kernel_rfl) (by kernel_rfl) (by kernel_rfl) (fun _ _ _ h => h) (Or.inl ⟨by rfl, ?_⟩) (by assumption) ?_
      rotate_left
      · intro w hSw
        try dsimp only at hSw
        go_simp
        try with_reducible rfl
      rotate_left
      try simp only [Act.put, List.setIfInBounds_toArray, List.set_cons_zero, List.set_cons_succ, List.getElem_toArray, List.getElem_cons_zero, List.getElem_cons_succ]
      refine wpAnyH_take (i := 1) (v := ?_) rfl (by kernel_rfl) (by kernel_rfl) (by kernel_rfl) (fun _ _ _ h => h) (Or.inl ⟨by rfl, ?_⟩) (by assumption) ?_
      rotate_left
      · intro w hSw
        try dsimp only at hSw
        go_simp
        try with_reducible rfl
      rotate_left
      try simp only [Act.put, List.setIfInBounds_toArray, List.set_cons_zero, List.set_cons_succ, List.getElem_toArray, List.getElem_cons_zero, List.getElem_cons_succ]
      refine wpAnyH_take (i := 3) (v := ?_) rfl (by kernel_rfl) (by kernel_rfl) (by kernel_rfl) (fun _ _ _ h => h) (Or.inl ⟨by rfl, ?_⟩) (by assumption) ?_
      rotate_left
      · intro w hSw
        try dsimp only at hSw
        go_simp
        try with_reducible rfl
      rotate_left
      try simp only [Act.put, List.setIfInBounds_toArray, List.set_cons_zero, List.set_cons_succ, List.getElem_toArray, List.getElem_cons_zero, List.getElem_cons_succ]
      refine wpAnyH_take (i := 4) (v := ?_) rfl (by kernel_rfl) (by kernel_rfl) (by kernel_rfl) (fun _ _ _ h => h) (Or.inl ⟨by rfl, ?_⟩) (by assumption) ?_
      rotate_left
      · intro w hSw
        try dsimp only at hSw
        go_simp
        try with_reducible rfl
      rotate_left
      try simp only [Act.put, List.setIfInBounds_toArray, List.set_cons_zero, List.set_cons_succ, List.getElem_toArray, List.getElem_cons_zero, List.getElem_cons_succ]
      refine wpAnyH_ready (rs := [2]) (by kernel_rfl) (by simp) ?_
      refine AllReadyH.cons rfl (fun K hK => ?_) AllReadyH.nil
      go_wp2_with fail
      refine (numbers_of _ _ _ _ _ _ _ _).mono ?_
      rintro e w7 ⟨rfl, hb7⟩
      obtain ⟨x0, x1, x2, x3, x4, y0, y1, y2, y3, y4, xb⟩ := hHeld
      have hHeld := And.intro (cell_keep hb7 x0) (And.intro (cell_keep hb7 x1) (And.intro (cell_keep hb7 x2) (And.intro (cell_keep hb7 x3) (And.intro (cell_keep hb7 x4) (And.intro (cell_keep hb7 y0) (And.intro (cell_keep hb7 y1) (And.intro (cell_keep hb7 y2) (And.intro (cell_keep hb7 y3) (And.intro (cell_keep hb7 y4) (below_trans xb hb7 (Below.size xb)))))))))))
      clear x0 x1 x2 x3 x4 y0 y1 y2 y3 y4 xb hb7
      refine hK.out _ _ hHeld (fun _ => ?_)
      clear hK K
      try simp only [Act.put, List.setIfInBounds_toArray, List.set_cons_zero, List.set_cons_succ, List.getElem_toArray, List.getElem_cons_zero, List.getElem_cons_succ]
      refine wpAnyH_ready (rs := [5]) (by kernel_rfl) (by simp) ?_
      refine AllReadyH.cons rfl (fun K hK => ?_) AllReadyH.nil
      go_wp2_with fail
      refine (numbers_of _ _ _ _ _ _ _ _).mono ?_
      rintro e w7 ⟨rfl, hb7⟩
      obtain ⟨x0, x1, x2, x3, x4, y0, y1, y2, y3, y4, xb⟩ := hHeld
      have hHeld := And.intro (cell_keep hb7 x0) (And.intro (cell_keep hb7 x1) (And.intro (cell_keep hb7 x2) (And.intro (cell_keep hb7 x3) (And.intro (cell_keep hb7 x4) (And.intro (cell_keep hb7 y0) (And.intro (cell_keep hb7 y1) (And.intro (cell_keep hb7 y2) (And.intro (cell_keep hb7 y3) (And.intro (cell_keep hb7 y4) (below_trans xb hb7 (Below.size xb)))))))))))
      clear x0 x1 x2 x3 x4 y0 y1 y2 y3 y4 xb hb7
      refine hK.out _ _ hHeld (fun _ => ?_)
      clear hK K
      try simp only [Act.put, List.setIfInBounds_toArray, List.set_cons_zero, List.set_cons_succ, List.getElem_toArray, List.getElem_cons_zero, List.getElem_cons_succ]
      refine wpAnyH_take (i := 6) (v := ?_) rfl (by kernel_rfl) (by kernel_rfl) (by kernel_rfl) (fun _ _ _ h => h) (Or.inl ⟨by rfl, ?_⟩) (by assumption) ?_
      rotate_left
      · intro w hSw
        try dsimp only at hSw
        go_simp
        try with_reducible rfl
      rotate_left
      try simp only [Act.put, List.setIfInBounds_toArray, List.set_cons_zero, List.set_cons_succ, List.getElem_toArray, List.getElem_cons_zero, List.getElem_cons_succ]
      refine wpAnyH_take (i := 7) (v := ?_) rfl (by kernel_rfl) (by kernel_rfl) (by kernel_rfl) (fun _ _ _ h => h) (Or.inl ⟨by rfl, ?_⟩) (by assumption) ?_
      rotate_left
      · intro w hSw
        try dsimp only at hSw
        go_simp
        try with_reducible rfl
      rotate_left
      try simp only [Act.put, List.setIfInBounds_toArray, List.set_cons_zero, List.set_cons_succ, List.getElem_toArray, List.getElem_cons_zero, List.getElem_cons_succ]
      refine wpAnyH_take (i := 8) (v := ?_) rfl (by kernel_rfl) (by kernel_rfl) (by kernel_rfl) (fun _ _ _ h => h) (Or.inl ⟨by rfl, ?_⟩) (by assumption) ?_
      rotate_left
      · intro w hSw
        try dsimp only at hSw
        go_simp
        try with_reducible rfl
      rotate_left
      try simp only [Act.put, List.setIfInBounds_toArray, List.set_cons_zero, List.set_cons_succ, List.getElem_toArray, List.getElem_cons_zero, List.getElem_cons_succ]
      refine wpAnyH_take (i := 9) (v := ?_) rfl (by kernel_rfl) (by kernel_rfl) (by kernel_rfl) (fun _ _ _ h => h) (Or.inl ⟨by rfl, ?_⟩) (by assumption) ?_
      rotate_left
      · intro w hSw
        try dsimp only at hSw
        go_simp
        try with_reducible rfl
      rotate_left
      try simp only [Act.put, List.setIfInBounds_toArray, List.set_cons_zero, List.set_cons_succ, List.getElem_toArray, List.getElem_cons_zero, List.getElem_cons_succ]
      refine wpAnyH_take (i := 10) (v := ?_) rfl (by kernel_rfl) (by kernel_rfl) (by kernel_rfl) (fun _ _ _ h => h) (Or.inl ⟨by rfl, ?_⟩) (by assumption) ?_
      rotate_left
      · intro w hSw
        try dsimp only at hSw
        go_simp
        try with_reducible rfl
      rotate_left
      try simp only [Act.put, List.setIfInBounds_toArray, List.set_cons_zero, List.set_cons_succ, List.getElem_toArray, List.getElem_cons_zero, List.getElem_cons_succ]
      refine wpAnyH_take (i := 11) (v := ?_) rfl (by kernel_rfl) (by kernel_rfl) (by kernel_rfl) (fun _ _ _ h => h) (Or.inl ⟨by rfl, ?_⟩) (by assumption) ?_
      rotate_left
      · intro w hSw
        try dsimp only at hSw
        go_simp
        try with_reducible rfl
      rotate_left
      try simp only [Act.put, List.setIfInBounds_toArray, List.set_cons_zero, List.set_cons_succ, List.getElem_toArray, List.getElem_cons_zero, List.getElem_cons_succ]
      refine wpAnyH_take (i := 12) (v := ?_) rfl (by kernel_rfl) (by kernel_rfl) (by kernel_rfl) (fun _ _ _ h => h) (Or.inl ⟨by rfl, ?_⟩) (by assumption) ?_
      rotate_left
      · intro w hSw
        try dsimp only at hSw
        go_simp
        try with_reducible rfl
      rotate_left
      try simp only [Act.put, List.setIfInBounds_toArray, List.set_cons_zero, List.set_cons_succ, List.getElem_toArray, List.getElem_cons_zero, List.getElem_cons_succ]
      refine wpAnyH_take (i := 13) (v := ?_) rfl (by kernel_rfl) (by kernel_rfl) (by kernel_rfl) (fun _ _ _ h => h) (Or.inl ⟨by rfl, ?_⟩) (by assumption) ?_
      rotate_left
      · intro w hSw
        try dsimp only at hSw
        go_simp
        try with_reducible rfl
      rotate_left
      try simp only [Act.put, List.setIfInBounds_toArray, List.set_cons_zero, List.set_cons_succ, List.getElem_toArray, List.getElem_cons_zero, List.getElem_cons_succ]
      refine wpAnyH_take (i := 14) (v := ?_) rfl (by kernel_rfl) (by kernel_rfl) (by kernel_rfl) (fun _ _ _ h => h) (Or.inl ⟨by rfl, ?_⟩) (by assumption) ?_
      rotate_left
      · intro w hSw
        try dsimp only at hSw
        go_simp
        try with_reducible rfl
      rotate_left
      try simp only [Act.put, List.setIfInBounds_toArray, List.set_cons_zero, List.set_cons_succ, List.getElem_toArray, List.getElem_cons_zero, List.getElem_cons_succ]
      refine wpAnyH_take (i := 15) (v := undef) rfl (by kernel_rfl) (by kernel_rfl) (by kernel_rfl) (fun _ _ _ h => h) (Or.inr ⟨by rfl, rfl⟩) (by assumption) ?_
      try simp only [Act.put, List.setIfInBounds_toArray, List.set_cons_zero, List.set_cons_succ, List.getElem_toArray, List.getElem_cons_zero, List.getElem_cons_succ]
      refine wpAnyH_take (i := 16) (v := undef) rfl (by kernel_rfl) (by kernel_rfl) (by kernel_rfl) (fun _ _ _ h => h) (Or.inr ⟨by rfl, rfl⟩) (by assumption) ?_
      try simp only [Act.put, List.setIfInBounds_toArray, List.set_cons_zero, List.set_cons_succ, List.getElem_toArray, List.getElem_cons_zero, List.getElem_cons_succ]
      refine wpAnyH_take (i := 17) (v := undef) rfl (by kernel_rfl) (by kernel_rfl) (by kernel_rfl) (fun _ _ _ h => h) (Or.inr ⟨by rfl, rfl⟩) (by assumption) ?_
      try simp only [Act.put, List.setIfInBounds_toArray, List.set_cons_zero, List.set_cons_succ, List.getElem_toArray, List.getElem_cons_zero, List.getElem_cons_succ]
      refine wpAnyH_take (i := 18) (v := undef) rfl (by kernel_rfl) (by kernel_rfl) (by kernel_rfl) (fun _ _ _ h => h) (Or.inr ⟨by rfl, rfl⟩) (by assumption) ?_
      try simp only [Act.put, List.setIfInBounds_toArray, List.set_cons_zero, List.set_cons_succ, List.getElem_toArray, List.getElem_cons_zero, List.getElem_cons_succ]
      refine wpAnyH_ready (rs := [19]) (by kernel_rfl) (by simp) ?_
      refine AllReadyH.cons rfl (fun K hK => ?_) AllReadyH.nil
      rw [if_neg (by intro h; exact absurd (show false = true from h) (by decide))]
      refine hK.out _ _ hHeld (fun _ => ?_)
      clear hK K
      try simp only [Act.put, List.setIfInBounds_toArray, List.set_cons_zero, List.set_cons_succ, List.getElem_toArray, List.getElem_cons_zero, List.getElem_cons_succ]
      refine wpAnyH_take (i := 20) (v := ?_) rfl (by kernel_rfl) (by kernel_rfl) (by kernel_rfl) (fun _ _ _ h => h) (Or.inl ⟨by rfl, ?_⟩) (by assumption) ?_
      rotate_left
      · intro w hSw
        try dsimp only at hSw
        go_simp
        try with_reducible rfl
      rotate_left
      try simp only [Act.put, List.setIfInBounds_toArray, List.set_cons_zero, List.set_cons_succ, List.getElem_toArray, List.getElem_cons_zero, List.getElem_cons_succ]
      refine wpAnyH_take (i := 21) (v := ?_) rfl (by kernel_rfl) (by kernel_rfl) (by kernel_rfl) (fun _ _ _ h => h) (Or.inl ⟨by rfl, ?_⟩) (by assumption) ?_
      rotate_left
      · intro w hSw
        try dsimp only at hSw
        go_simp
        try with_reducible rfl
      rotate_left
      try simp only [Act.put, List.setIfInBounds_toArray, List.set_cons_zero, List.set_cons_succ, List.getElem_toArray, List.getElem_cons_zero, List.getElem_cons_succ]
      refine wpAnyH_done (by kernel_rfl) ?_ _
      go_wp2_with fail
      go_ret
      exact ⟨by rw [H.out]; rfl, hHeld.2.2.2.2.2.2.2.2.2.2⟩
  · have H : Hid (sameN ⟨i1, k1, l1, t1, e1⟩ ⟨i2, k2, l2, t2, e2⟩ = false) := Lib.hid (by
      rw [Bool.eq_false_iff]
      intro h
      have := sameN_iff.1 h
      injection this with x1 x2 x3
      exact h1 ⟨x1, x2, x3⟩)
    have hq : ((i1 == i2) && (k1 == k2) && (l1 == l2)) = false := by
      rw [Bool.eq_false_iff]
      intro h
      simp only [Bool.and_eq_true, beq_iff_eq] at h
      exact h1 ⟨h.1.1, h.1.2, h.2⟩
    have harr : ∀ W, (Op.equalIn 10000 61 (.agg #[.int .i64 i1, .int .i64 k1, .int .i64 l1]) (.agg #[.int .i64 i2, .int .i64 k2, .int .i64 l2])).run Try.prog W = .ok false W := fun W => by rw [run_arr3, hq]
    clear h1 hq
    go_enter Try.func20, Try.ntmps20
    go_wp2_with fail
    rw [← HW.out]
    have hb00 := below_dn hb0 1
    refine wp_region_held_drew (S := fun W => W.cell? ⟨w.heap.size, 0, none⟩ = some (.int .i64 i1) ∧ W.cell? ⟨w.heap.size, 1, none⟩ = some (.int .i64 k1) ∧ W.cell? ⟨w.heap.size, 2, none⟩ = some (.int .i64 l1) ∧ W.cell? ⟨w.heap.size, 3, none⟩ = some (.string ⟨t1.toArray⟩) ∧ W.cell? ⟨w.heap.size, 4, none⟩ = some (.slice A e1.length c) ∧ W.cell? ⟨w.heap.size + 1, 0, none⟩ = some (.int .i64 i2) ∧ W.cell? ⟨w.heap.size + 1, 1, none⟩ = some (.int .i64 k2) ∧ W.cell? ⟨w.heap.size + 1, 2, none⟩ = some (.int .i64 l2) ∧ W.cell? ⟨w.heap.size + 1, 3, none⟩ = some (.string ⟨t2.toArray⟩) ∧ W.cell? ⟨w.heap.size + 1, 4, none⟩ = some (.slice B e2.length d) ∧ Below w.heap.size w W) (by kernel_rfl) ⟨p0, p1, p2, p3, p4, q0, q1, q2, q3, q4, hb00⟩ (fun hHeld => ?_)
    refine wpAnyH_take (i := 0) (v := ?_) rfl (by kernel_rfl) (by kernel_rfl) (by kernel_rfl) (fun _ _ _ h => h) (Or.inl ⟨by rfl, ?_⟩) (by assumption) ?_
    rotate_left
    · intro w hSw
      try dsimp only at hSw
      go_simp
      try with_reducible rfl
    rotate_left
    try simp only [Act.put, List.setIfInBounds_toArray, List.set_cons_zero, List.set_cons_succ, List.getElem_toArray, List.getElem_cons_zero, List.getElem_cons_succ]
    refine wpAnyH_take (i := 1) (v := ?_) rfl (by kernel_rfl) (by kernel_rfl) (by kernel_rfl) (fun _ _ _ h => h) (Or.inl ⟨by rfl, ?_⟩) (by assumption) ?_
    rotate_left
    · intro w hSw
      try dsimp only at hSw
      go_simp
      try with_reducible rfl
    rotate_left
    try simp only [Act.put, List.setIfInBounds_toArray, List.set_cons_zero, List.set_cons_succ, List.getElem_toArray, List.getElem_cons_zero, List.getElem_cons_succ]
    refine wpAnyH_take (i := 3) (v := ?_) rfl (by kernel_rfl) (by kernel_rfl) (by kernel_rfl) (fun _ _ _ h => h) (Or.inl ⟨by rfl, ?_⟩) (by assumption) ?_
    rotate_left
    · intro w hSw
      try dsimp only at hSw
      go_simp
      try with_reducible rfl
    rotate_left
    try simp only [Act.put, List.setIfInBounds_toArray, List.set_cons_zero, List.set_cons_succ, List.getElem_toArray, List.getElem_cons_zero, List.getElem_cons_succ]
    refine wpAnyH_take (i := 4) (v := ?_) rfl (by kernel_rfl) (by kernel_rfl) (by kernel_rfl) (fun _ _ _ h => h) (Or.inl ⟨by rfl, ?_⟩) (by assumption) ?_
    rotate_left
    · intro w hSw
      try dsimp only at hSw
      go_simp
      try with_reducible rfl
    rotate_left
    try simp only [Act.put, List.setIfInBounds_toArray, List.set_cons_zero, List.set_cons_succ, List.getElem_toArray, List.getElem_cons_zero, List.getElem_cons_succ]
    refine wpAnyH_ready (rs := [2]) (by kernel_rfl) (by simp) ?_
    refine AllReadyH.cons rfl (fun K hK => ?_) AllReadyH.nil
    go_wp2_with fail
    refine (numbers_of _ _ _ _ _ _ _ _).mono ?_
    rintro e w7 ⟨rfl, hb7⟩
    obtain ⟨x0, x1, x2, x3, x4, y0, y1, y2, y3, y4, xb⟩ := hHeld
    have hHeld := And.intro (cell_keep hb7 x0) (And.intro (cell_keep hb7 x1) (And.intro (cell_keep hb7 x2) (And.intro (cell_keep hb7 x3) (And.intro (cell_keep hb7 x4) (And.intro (cell_keep hb7 y0) (And.intro (cell_keep hb7 y1) (And.intro (cell_keep hb7 y2) (And.intro (cell_keep hb7 y3) (And.intro (cell_keep hb7 y4) (below_trans xb hb7 (Below.size xb)))))))))))
    clear x0 x1 x2 x3 x4 y0 y1 y2 y3 y4 xb hb7
    refine hK.out _ _ hHeld (fun _ => ?_)
    clear hK K
    try simp only [Act.put, List.setIfInBounds_toArray, List.set_cons_zero, List.set_cons_succ, List.getElem_toArray, List.getElem_cons_zero, List.getElem_cons_succ]
    refine wpAnyH_ready (rs := [5]) (by kernel_rfl) (by simp) ?_
    refine AllReadyH.cons rfl (fun K hK => ?_) AllReadyH.nil
    go_wp2_with fail
    refine (numbers_of _ _ _ _ _ _ _ _).mono ?_
    rintro e w7 ⟨rfl, hb7⟩
    obtain ⟨x0, x1, x2, x3, x4, y0, y1, y2, y3, y4, xb⟩ := hHeld
    have hHeld := And.intro (cell_keep hb7 x0) (And.intro (cell_keep hb7 x1) (And.intro (cell_keep hb7 x2) (And.intro (cell_keep hb7 x3) (And.intro (cell_keep hb7 x4) (And.intro (cell_keep hb7 y0) (And.intro (cell_keep hb7 y1) (And.intro (cell_keep hb7 y2) (And.intro (cell_keep hb7 y3) (And.intro (cell_keep hb7 y4) (below_trans xb hb7 (Below.size xb)))))))))))
    clear x0 x1 x2 x3 x4 y0 y1 y2 y3 y4 xb hb7
    refine hK.out _ _ hHeld (fun _ => ?_)
    clear hK K
    try simp only [Act.put, List.setIfInBounds_toArray, List.set_cons_zero, List.set_cons_succ, List.getElem_toArray, List.getElem_cons_zero, List.getElem_cons_succ]
    refine wpAnyH_take (i := 6) (v := ?_) rfl (by kernel_rfl) (by kernel_rfl) (by kernel_rfl) (fun _ _ _ h => h) (Or.inl ⟨by rfl, ?_⟩) (by assumption) ?_
    rotate_left
    · intro w hSw
      try dsimp only at hSw
      go_simp
      try with_reducible rfl
    rotate_left
    try simp only [Act.put, List.setIfInBounds_toArray, List.set_cons_zero, List.set_cons_succ, List.getElem_toArray, List.getElem_cons_zero, List.getElem_cons_succ]
    refine wpAnyH_take (i := 7) (v := ?_) rfl (by kernel_rfl) (by kernel_rfl) (by kernel_rfl) (fun _ _ _ h => h) (Or.inl ⟨by rfl, ?_⟩) (by assumption) ?_
    rotate_left
    · intro w hSw
      try dsimp only at hSw
      go_simp
      try with_reducible rfl
    rotate_left
    try simp only [Act.put, List.setIfInBounds_toArray, List.set_cons_zero, List.set_cons_succ, List.getElem_toArray, List.getElem_cons_zero, List.getElem_cons_succ]
    refine wpAnyH_take (i := 8) (v := undef) rfl (by kernel_rfl) (by kernel_rfl) (by kernel_rfl) (fun _ _ _ h => h) (Or.inr ⟨by rfl, rfl⟩) (by assumption) ?_
    try simp only [Act.put, List.setIfInBounds_toArray, List.set_cons_zero, List.set_cons_succ, List.getElem_toArray, List.getElem_cons_zero, List.getElem_cons_succ]
    refine wpAnyH_take (i := 9) (v := undef) rfl (by kernel_rfl) (by kernel_rfl) (by kernel_rfl) (fun _ _ _ h => h) (Or.inr ⟨by rfl, rfl⟩) (by assumption) ?_
    try simp only [Act.put, List.setIfInBounds_toArray, List.set_cons_zero, List.set_cons_succ, List.getElem_toArray, List.getElem_cons_zero, List.getElem_cons_succ]
    refine wpAnyH_take (i := 10) (v := undef) rfl (by kernel_rfl) (by kernel_rfl) (by kernel_rfl) (fun _ _ _ h => h) (Or.inr ⟨by rfl, rfl⟩) (by assumption) ?_
    try simp only [Act.put, List.setIfInBounds_toArray, List.set_cons_zero, List.set_cons_succ, List.getElem_toArray, List.getElem_cons_zero, List.getElem_cons_succ]
    refine wpAnyH_take (i := 11) (v := undef) rfl (by kernel_rfl) (by kernel_rfl) (by kernel_rfl) (fun _ _ _ h => h) (Or.inr ⟨by rfl, rfl⟩) (by assumption) ?_
    try simp only [Act.put, List.setIfInBounds_toArray, List.set_cons_zero, List.set_cons_succ, List.getElem_toArray, List.getElem_cons_zero, List.getElem_cons_succ]
    refine wpAnyH_take (i := 12) (v := undef) rfl (by kernel_rfl) (by kernel_rfl) (by kernel_rfl) (fun _ _ _ h => h) (Or.inr ⟨by rfl, rfl⟩) (by assumption) ?_
    try simp only [Act.put, List.setIfInBounds_toArray, List.set_cons_zero, List.set_cons_succ, List.getElem_toArray, List.getElem_cons_zero, List.getElem_cons_succ]
    refine wpAnyH_take (i := 13) (v := ?_) rfl (by kernel_rfl) (by kernel_rfl) (by kernel_rfl) (fun _ _ _ h => h) (Or.inl ⟨by rfl, ?_⟩) (by assumption) ?_
    rotate_left
    · intro w hSw
      try dsimp only at hSw
      go_simp
      try with_reducible rfl
    rotate_left
    try simp only [Act.put, List.setIfInBounds_toArray, List.set_cons_zero, List.set_cons_succ, List.getElem_toArray, List.getElem_cons_zero, List.getElem_cons_succ]
    refine wpAnyH_take (i := 14) (v := ?_) rfl (by kernel_rfl) (by kernel_rfl) (by kernel_rfl) (fun _ _ _ h => h) (Or.inl ⟨by rfl, ?_⟩) (by assumption) ?_
    rotate_left
    · intro w hSw
      try dsimp only at hSw
      go_simp
      try with_reducible rfl
    rotate_left
    try simp only [Act.put, List.setIfInBounds_toArray, List.set_cons_zero, List.set_cons_succ, List.getElem_toArray, List.getElem_cons_zero, List.getElem_cons_succ]
    refine wpAnyH_take (i := 15) (v := undef) rfl (by kernel_rfl) (by kernel_rfl) (by kernel_rfl) (fun _ _ _ h => h) (Or.inr ⟨by rfl, rfl⟩) (by assumption) ?_
    try simp only [Act.put, List.setIfInBounds_toArray, List.set_cons_zero, List.set_cons_succ, List.getElem_toArray, List.getElem_cons_zero, List.getElem_cons_succ]
    refine wpAnyH_take (i := 16) (v := undef) rfl (by kernel_rfl) (by kernel_rfl) (by kernel_rfl) (fun _ _ _ h => h) (Or.inr ⟨by rfl, rfl⟩) (by assumption) ?_
    try simp only [Act.put, List.setIfInBounds_toArray, List.set_cons_zero, List.set_cons_succ, List.getElem_toArray, List.getElem_cons_zero, List.getElem_cons_succ]
    refine wpAnyH_take (i := 17) (v := undef) rfl (by kernel_rfl) (by kernel_rfl) (by kernel_rfl) (fun _ _ _ h => h) (Or.inr ⟨by rfl, rfl⟩) (by assumption) ?_
    try simp only [Act.put, List.setIfInBounds_toArray, List.set_cons_zero, List.set_cons_succ, List.getElem_toArray, List.getElem_cons_zero, List.getElem_cons_succ]
    refine wpAnyH_take (i := 18) (v := undef) rfl (by kernel_rfl) (by kernel_rfl) (by kernel_rfl) (fun _ _ _ h => h) (Or.inr ⟨by rfl, rfl⟩) (by assumption) ?_
    try simp only [Act.put, List.setIfInBounds_toArray, List.set_cons_zero, List.set_cons_succ, List.getElem_toArray, List.getElem_cons_zero, List.getElem_cons_succ]
    refine wpAnyH_ready (rs := [19]) (by kernel_rfl) (by simp) ?_
    refine AllReadyH.cons rfl (fun K hK => ?_) AllReadyH.nil
    rw [if_neg (by intro h; exact absurd (show false = true from h) (by decide))]
    refine hK.out _ _ hHeld (fun _ => ?_)
    clear hK K
    try simp only [Act.put, List.setIfInBounds_toArray, List.set_cons_zero, List.set_cons_succ, List.getElem_toArray, List.getElem_cons_zero, List.getElem_cons_succ]
    refine wpAnyH_take (i := 20) (v := ?_) rfl (by kernel_rfl) (by kernel_rfl) (by kernel_rfl) (fun _ _ _ h => h) (Or.inl ⟨by rfl, ?_⟩) (by assumption) ?_
    rotate_left
    · intro w hSw
      try dsimp only at hSw
      go_simp
      try with_reducible rfl
    rotate_left
    try simp only [Act.put, List.setIfInBounds_toArray, List.set_cons_zero, List.set_cons_succ, List.getElem_toArray, List.getElem_cons_zero, List.getElem_cons_succ]
    refine wpAnyH_take (i := 21) (v := ?_) rfl (by kernel_rfl) (by kernel_rfl) (by kernel_rfl) (fun _ _ _ h => h) (Or.inl ⟨by rfl, ?_⟩) (by assumption) ?_
    rotate_left
    · intro w hSw
      try dsimp only at hSw
      go_simp
      try with_reducible rfl
    rotate_left
    try simp only [Act.put, List.setIfInBounds_toArray, List.set_cons_zero, List.set_cons_succ, List.getElem_toArray, List.getElem_cons_zero, List.getElem_cons_succ]
    refine wpAnyH_done (by kernel_rfl) ?_ _
    go_wp2_with fail
    go_ret
    exact ⟨by rw [H.out]; rfl, hHeld.2.2.2.2.2.2.2.2.2.2⟩
end Go.Proofs.Ytoinafcjkbdjnaa
