/- table.taking's row: it answers as the document says, state by state. -/
import Derived.Test.YthnajmfbomedlaaTabRowP
import Derived.Test.YthnajmfbomedlaaTabTak2
import Derived.Test.YthnajmfbomedlaaTabFor
import Derived.Test.YthnajmfbomedlaaLast
set_option linter.unusedVariables false
set_option linter.unusedSimpArgs false
namespace Go.Proofs.Ythnajmfbomedlaa
open Go.RowKit Copyhold

theorem TkW.own {w w1 : World} {B : Nat} {T : TypeId} {cs : Array Value} (h : TkW w B T cs w1) (P o : Nat) (v : Value) (hP : w.heap.size ≤ P) (hne : P ≠ B) : TkW w B T cs (w1.setCell ⟨P, o, none⟩ v) :=
  ⟨h.1.far _ _ _ (fun e => hne e.symm), fun k hk hs => by rw [heap_setCell_far _ _ _ _ (show k ≠ P by omega)]; exact h.2.1 k hk hs, by simpa using h.2.2.1, fun base a hb hB hs => (h.2.2.2 base a hb hB hs).setCell (p := ⟨P, o, none⟩) (Nat.le_trans hs hP) _⟩
theorem TkW.drew {w w1 : World} {B : Nat} {T : TypeId} {cs : Array Value} (h : TkW w B T cs w1) : TkW w B T cs w1.drew := ⟨h.1, h.2.1, h.2.2.1, fun base a hb hB hs => below_dn (h.2.2.2 base a hb hB hs) 1⟩
theorem owns_less {w : World} {base base' : Nat} {e : TypeId} {k : Nat} {v : Value} {n : Nat} {xs : List Value} (h : w.ownsRow base' e k v n xs) (hb : base ≤ base') : w.ownsRow base e k v n xs := by
  refine ⟨h.1, ?_⟩
  rcases h.2 with h' | ⟨g, cap, cur, rfl, hg, r⟩
  · exact .inl h'
  · exact .inr ⟨g, cap, cur, rfl, Nat.le_trans hb hg, r⟩
/-- an append to a row of the call's own -/
theorem TkW.app {w w1 w4 : World} {B base : Nat} {T : TypeId} {cs : Array Value} (h : TkW w B T cs w1) (hb : B < base) (hw : w.heap.size ≤ base) (hk : ∀ b, b < base → w4.heap[b]? = w1.heap[b]?) (hs : w1.heap.size ≤ w4.heap.size) (hB : ∀ (B : Nat) (a : World), Below B a w1 → B ≤ base → Below B a w4) : TkW w B T cs w4 := by
  refine ⟨?_, fun k hk' hs' => ?_, Nat.le_trans h.2.2.1 hs, fun b a hb' hB' hs' => hB b a (h.2.2.2 b a hb' hB' hs') (by omega)⟩
  · have := h.1
    unfold TBox at this ⊢
    rw [hk B hb]
    exact this
  · rw [hk k (by omega)]
    exact h.2.1 k hk' hs'

/-- a row that is handed back, and what is left in the box -/
def RetRow (w : World) (B : Nat) (T : TypeId) (x : TRow × Bool × List UInt8 × Int) (e : Ending) (w' : World) : Prop :=
  ∃ A c, e = .returned (.agg #[.int .i64 x.1.client, .int .i64 x.1.epoch, .int .i64 x.1.done, .slice A x.1.l.length c]) ∧ w'.ownsRow w.heap.size 65 2 (.slice A x.1.l.length c) x.1.l.length (x.1.l.flatMap decC) ∧ TkW w B T (bxT x.2.2.1 x.2.2.2 x.2.1) w'

set_option maxRecDepth 100000 in
set_option maxHeartbeats 16000000 in
theorem taking_row (l : List UInt8) (err : Int) (o : Bool) (B : Nat) (T : TypeId) (w : World) (hb : TBox w B T (bxT l err o)) (hl : l.length ≤ 140737488355328) :
    Calls Try.prog 41 #[.pointer (some ⟨B, 0, none⟩)] w (RetRow w B T (rowSt l err o)) := by
  have hB := hb.lt
  obtain ⟨x1, hx1⟩ : ∃ x, x = numSt l err := ⟨_, rfl⟩
  obtain ⟨x2, hx2⟩ : ∃ x, x = numSt x1.2.1 x1.2.2 := ⟨_, rfl⟩
  obtain ⟨x3, hx3⟩ : ∃ x, x = numSt x2.2.1 x2.2.2 := ⟨_, rfl⟩
  obtain ⟨x4, hx4⟩ : ∃ x, x = cntSt x3.2.1 x3.2.2 256 := ⟨_, rfl⟩
  obtain ⟨X, hX⟩ : ∃ X, X = decsSt x4.1.toNat [] o x4.2.1 x4.2.2 := ⟨_, rfl⟩
  have hR : rowSt l err o = (⟨x1.1, x2.1, x3.1, X.1⟩, X.2) := by rw [hX, hx4, hx3, hx2, hx1]; rfl
  have b1 := numSt_bd l err
  have b2 := numSt_bd x1.2.1 x1.2.2
  have b3 := numSt_bd x2.2.1 x2.2.2
  have b4 := cntSt_bd x3.2.1 x3.2.2 256
  rw [← hx1] at b1
  rw [← hx2] at b2
  rw [← hx3] at b3
  rw [← hx4] at b4
  have H1 := Lib.hid (fun W (h : TBox W B T (bxT l err o)) => taking_number l err o B T W h hl)
  have H2 := Lib.hid (fun W (h : TBox W B T (bxT x1.2.1 x1.2.2 o)) => taking_number x1.2.1 x1.2.2 o B T W h (by omega))
  have H3 := Lib.hid (fun W (h : TBox W B T (bxT x2.2.1 x2.2.2 o)) => taking_number x2.2.1 x2.2.2 o B T W h (by omega))
  have H4 := Lib.hid (fun W (h : TBox W B T (bxT x3.2.1 x3.2.2 o)) => taking_take x3.2.1 x3.2.2 o 256 B T W h (by omega) (by decide) (by decide))
  rw [← hx1] at H1
  rw [← hx2] at H2
  rw [← hx3] at H3
  rw [← hx4] at H4
  rw [hR]
  clear hR hx1 hx2 hx3 hx4
  obtain ⟨c, s1, e1⟩ := x1
  obtain ⟨ep, s2, e2⟩ := x2
  obtain ⟨d, s3, e3⟩ := x3
  obtain ⟨z, s4, e4⟩ := x4
  simp only at H1 H2 H3 H4 b1 b2 b3 b4 hX ⊢
  obtain ⟨⟨z1, z2⟩, l4, z3⟩ := b4
  obtain ⟨m, rfl⟩ : ∃ m : Nat, z = (m : Int) := ⟨z.toNat, by omega⟩
  have hm : m ≤ 256 := by have := z3 (by decide); omega
  rw [Int.toNat_natCast] at hX
  have HXX := Lib.hid hX
  have hl4 : s4.length ≤ 140737488355328 := by omega
  have hXl := (decsSt_len m [] o s4 e4).1
  rw [← hX, List.length_nil, Nat.zero_add] at hXl
  have HXL := Lib.hid hXl
  clear hX b1 b2 b3 z1 z2 z3 l4 hXl
  obtain ⟨W0, hW0⟩ : ∃ W0, W0 = (w.alloc (.cells #[.int .i64 0, .int .i64 0, .int .i64 0, .slice none 0 0] 63)).alloc (.cells #[.int .i64 0, .int .i64 0, .int .i64 0, .slice none 0 0] 63) := ⟨_, rfl⟩
  have hb0 : Below w.heap.size w W0 := by rw [hW0]; exact ((Below.refl _ _).alloc (Nat.le_refl _) _).alloc (by simp) _
  have r0 : TBox W0 w.heap.size 63 #[.int .i64 0, .int .i64 0, .int .i64 0, .slice none 0 0] := by
    rw [hW0]
    exact (TBox.new _ _ _).below ((Below.refl _ _).alloc (Nat.le_refl _) _)
  have t0 : TBox W0 (w.heap.size + 1) 63 #[.int .i64 0, .int .i64 0, .int .i64 0, .slice none 0 0] := by
    rw [hW0]
    have h := TBox.new (w.alloc (.cells #[.int .i64 0, .int .i64 0, .int .i64 0, .slice none 0 0] 63)) 63 #[.int .i64 0, .int .i64 0, .int .i64 0, .slice none 0 0]
    rw [show (w.alloc (.cells #[.int .i64 0, .int .i64 0, .int .i64 0, .slice none 0 0] 63)).heap.size = w.heap.size + 1 from by simp] at h
    exact h
  have HX0 := Lib.hid (And.intro (TkW.below hb hb0) (And.intro r0 t0))
  have HW := Lib.hid hW0
  clear hb hb0 r0 t0 hW0
  go_enter Try.func41, Try.ntmps41
  go_wp2_with fail
  rw [← HW.out]
  refine (H1.out _ HX0.out.1.1).mono ?_
  rintro e w1 ⟨rfl, hk1⟩
  obtain ⟨V1, hV1⟩ : ∃ V, V = w1.setCell ⟨w.heap.size + 1, 0, none⟩ (.int .i64 c) := ⟨_, rfl⟩
  have q1 := hk1.far HX0.out.2.2 (by omega)
  have p1 : w1.cell? ⟨w.heap.size + 1, 0, none⟩ = some (.int .i64 0) := q1.cell 0
  have f1 := q1.free 0
  have HX1 := Lib.hid (show TkW w B T (bxT s1 e1 o) V1 ∧ TBox V1 w.heap.size 63 #[.int .i64 0, .int .i64 0, .int .i64 0, .slice none 0 0] ∧ TBox V1 (w.heap.size + 1) 63 #[.int .i64 c, .int .i64 0, .int .i64 0, .slice none 0 0] from by
    rw [hV1]
    exact ⟨(HX0.out.1.trans hk1).own _ _ _ (by omega) (by omega), (hk1.far HX0.out.2.1 (by omega)).far _ _ _ (by omega), q1.set 0 _⟩)
  have HV1 := Lib.hid hV1
  clear hk1 q1 hV1
  go_wp2_with fail
  rw [← HV1.out]
  clear p1 f1
  refine (H2.out _ HX1.out.1.1).mono ?_
  rintro e w2 ⟨rfl, hk2⟩
  obtain ⟨V2, hV2⟩ : ∃ V, V = w2.setCell ⟨w.heap.size + 1, 1, none⟩ (.int .i64 ep) := ⟨_, rfl⟩
  have q2 := hk2.far HX1.out.2.2 (by omega)
  have p2 : w2.cell? ⟨w.heap.size + 1, 1, none⟩ = some (.int .i64 0) := q2.cell 1
  have f2 := q2.free 1
  have HX2 := Lib.hid (show TkW w B T (bxT s2 e2 o) V2 ∧ TBox V2 w.heap.size 63 #[.int .i64 0, .int .i64 0, .int .i64 0, .slice none 0 0] ∧ TBox V2 (w.heap.size + 1) 63 #[.int .i64 c, .int .i64 ep, .int .i64 0, .slice none 0 0] from by
    rw [hV2]
    exact ⟨(HX1.out.1.trans hk2).own _ _ _ (by omega) (by omega), (hk2.far HX1.out.2.1 (by omega)).far _ _ _ (by omega), q2.set 1 _⟩)
  have HV2 := Lib.hid hV2
  clear hk2 q2 hV2
  go_wp2_with fail
  rw [← HV2.out]
  clear p2 f2
  refine (H3.out _ HX2.out.1.1).mono ?_
  rintro e w3 ⟨rfl, hk3⟩
  obtain ⟨V3, hV3⟩ : ∃ V, V = w3.setCell ⟨w.heap.size + 1, 2, none⟩ (.int .i64 d) := ⟨_, rfl⟩
  have q3 := hk3.far HX2.out.2.2 (by omega)
  have p3 : w3.cell? ⟨w.heap.size + 1, 2, none⟩ = some (.int .i64 0) := q3.cell 2
  have f3 := q3.free 2
  have HX3 := Lib.hid (show TkW w B T (bxT s3 e3 o) V3 ∧ TBox V3 w.heap.size 63 #[.int .i64 0, .int .i64 0, .int .i64 0, .slice none 0 0] ∧ TBox V3 (w.heap.size + 1) 63 #[.int .i64 c, .int .i64 ep, .int .i64 d, .slice none 0 0] from by
    rw [hV3]
    exact ⟨(HX2.out.1.trans hk3).own _ _ _ (by omega) (by omega), (hk3.far HX2.out.2.1 (by omega)).far _ _ _ (by omega), q3.set 2 _⟩)
  have HV3 := Lib.hid hV3
  clear hk3 q3 hV3
  go_wp2_with fail
  rw [← HV3.out]
  clear p3 f3
  refine (H4.out _ HX3.out.1.1).mono ?_
  rintro e w4 ⟨rfl, hk4⟩
  have HX4 := Lib.hid (And.intro (HX3.out.1.trans hk4) (And.intro (hk4.far HX3.out.2.1 (by omega)) (hk4.far HX3.out.2.2 (by omega))))
  clear hk4
  go_wp2_with fail
  go_loopw [16] (fun si wr => ∃ (k : Nat) (acc : List (Int × Bool)) (o1 : Bool) (t : List UInt8) (er : Int) (sv : Value), si = .int .u64 k ∧ k ≤ m ∧ acc.length = k ∧ decsSt (m - k) acc o1 t er = X ∧ t.length ≤ 140737488355328 ∧ wr.ownsRow (w.heap.size + 2) 65 2 sv k (acc.flatMap decC) ∧ TkW w B T (bxT t er o1) wr ∧ TBox wr w.heap.size 63 #[.int .i64 0, .int .i64 0, .int .i64 0, .slice none 0 0] ∧ TBox wr (w.heap.size + 1) 63 #[.int .i64 c, .int .i64 ep, .int .i64 d, sv]) (fun si _ => m - (intOf si).toNat)
  case atStart => exact ⟨0, [], o, s4, e4, _, rfl, Nat.zero_le _, rfl, HXX.out.symm, hl4, World.ownsRow_nil _ _ _ _, HX4.out.1, HX4.out.2.1, HX4.out.2.2⟩
  case round =>
    obtain ⟨k, acc, o1, t, er, sv, rfl, hk, hacc, hst, hlt, hown, htk, hr, ht⟩ := hrel
    obtain ⟨A5, c5, rfl, -, -⟩ := (Sl.of_owns hown).shape
    have HX := Lib.hid (And.intro hown (And.intro htk (And.intro hr ht)))
    have g3 : wr.cell? ⟨w.heap.size + 1, 3, none⟩ = some (.slice A5 k c5) := ht.cell 3
    have HST := Lib.hid hst
    have HACC := Lib.hid hacc
    have hsw : w.heap.size + 1 < wr.heap.size := ht.lt
    clear hown htk hr ht hst hacc
    by_cases hkm : k < m
    · have hki : (k : Int) < (m : Int) := by omega
      have hun : decsSt (m - k) acc o1 t er = decsSt (m - (k + 1)) (acc ++ [(decSt t er o1).1]) (decSt t er o1).2.1 (decSt t er o1).2.2.1 (decSt t er o1).2.2.2 := by
        rw [show m - k = (m - (k + 1)) + 1 by omega]
        rfl
      rw [hun] at HST
      have hbd := (decSt_bd t er o1).2
      have HD := Lib.hid (fun W (h : TBox W B T (bxT t er o1)) => taking_decision t er o1 B T W h hlt)
      clear hun
      generalize decSt t er o1 = y at *
      obtain ⟨⟨q, yb⟩, o2, t2, er2⟩ := y
      simp only at HST HD hbd
      go_wp2_with fail
      refine wp_region_z (S := fun V => V.cell? ⟨w.heap.size + 1, 3, none⟩ = some (.slice A5 k c5)) 7 (by kernel_rfl) (g3) (fun hHeld => ?_)
      refine wpAnyZ_take (i := 0) (v := ?_) rfl (by kernel_rfl) (fun _ _ _ h => h) (Or.inl ⟨by rfl, ?_⟩) (by assumption) ?_
      rotate_left
      · intro w hSw
        try dsimp only at hSw
        go_simp
        try with_reducible rfl
      rotate_left
      try simp only [Act.put, List.setIfInBounds_toArray, List.set_cons_zero, List.set_cons_succ, List.getElem_toArray, List.getElem_cons_zero, List.getElem_cons_succ]
      refine wpAnyZ_take (i := 1) (v := ?_) rfl (by kernel_rfl) (fun _ _ _ h => h) (Or.inl ⟨by rfl, ?_⟩) (by assumption) ?_
      rotate_left
      · intro w hSw
        try dsimp only at hSw
        go_simp
        try with_reducible rfl
      rotate_left
      try simp only [Act.put, List.setIfInBounds_toArray, List.set_cons_zero, List.set_cons_succ, List.getElem_toArray, List.getElem_cons_zero, List.getElem_cons_succ]
      refine wpAnyZ_take (i := 2) (v := ?_) rfl (by kernel_rfl) (fun _ _ _ h => h) (Or.inl ⟨by rfl, ?_⟩) (by assumption) ?_
      rotate_left
      · intro w hSw
        try dsimp only at hSw
        go_simp
        try with_reducible rfl
      rotate_left
      try simp only [Act.put, List.setIfInBounds_toArray, List.set_cons_zero, List.set_cons_succ, List.getElem_toArray, List.getElem_cons_zero, List.getElem_cons_succ]
      refine wpAnyZ_one (i := 3) (by kernel_rfl) rfl (fun K hK => ?_)
      rw [if_pos (by rfl)]
      go_wp2_with fail
      refine (HD.out wr.drew HX.out.2.1.1).mono ?_
      rintro e w5 ⟨rfl, hk5⟩
      have hk5' : TkW wr.drew B T _ w5 := hk5
      have t5 := hk5.far (show TBox wr.drew (w.heap.size + 1) _ _ from HX.out.2.2.2) (by omega)
      have HX5 := Lib.hid (show w5.ownsRow (w.heap.size + 2) 65 2 (.slice A5 k c5) k (acc.flatMap decC) ∧ TkW w B T (bxT t2 er2 o2) w5 ∧ TBox w5 w.heap.size 63 #[.int .i64 0, .int .i64 0, .int .i64 0, .slice none 0 0] ∧ TBox w5 (w.heap.size + 1) 63 #[.int .i64 c, .int .i64 ep, .int .i64 d, .slice A5 k c5] from ⟨hk5.owns (show wr.drew.ownsRow _ _ _ _ _ _ from HX.out.1) (by omega), HX.out.2.1.drew.trans hk5, hk5.far (show TBox wr.drew w.heap.size _ _ from HX.out.2.2.1) (by omega), t5⟩)
      have x5 : w5.cell? ⟨w.heap.size + 1, 3, none⟩ = some (.slice A5 k c5) := t5.cell 3
      have hs5 : w.heap.size + 1 < w5.heap.size := t5.lt
      clear hk5 hk5' t5
      refine hK.out _ _ (x5) (fun hHeld => ?_)
      clear hK K
      try simp only [Act.put, List.setIfInBounds_toArray, List.set_cons_zero, List.set_cons_succ, List.getElem_toArray, List.getElem_cons_zero, List.getElem_cons_succ]
      refine wpAnyZ_one (i := 4) (by kernel_rfl) rfl (fun K hK => ?_)
      rw [if_pos (by rfl)]
      go_wp2_with fail
      refine hK.out _ _ (cell_alloc _ x5) (fun hHeld => ?_)
      clear hK K
      try simp only [Act.put, List.setIfInBounds_toArray, List.set_cons_zero, List.set_cons_succ, List.getElem_toArray, List.getElem_cons_zero, List.getElem_cons_succ]
      obtain ⟨v', w6, hrun, ho6, hk6, hs6, hb6⟩ := app_dec (w3 := w5) (base := w.heap.size + 2) (q, yb) HX5.out.1 (by omega) hs5
      obtain ⟨A6, c6, rfl, -, -⟩ := (Sl.of_owns ho6).shape
      have t6 : TBox w6 (w.heap.size + 1) 63 #[.int .i64 c, .int .i64 ep, .int .i64 d, .slice A5 k c5] := by
        have := HX5.out.2.2.2
        unfold TBox at this ⊢
        rw [hk6 _ (by omega)]
        exact this
      have r6 : TBox w6 w.heap.size 63 #[.int .i64 0, .int .i64 0, .int .i64 0, .slice none 0 0] := by
        have := HX5.out.2.2.1
        unfold TBox at this ⊢
        rw [hk6 _ (by omega)]
        exact this
      have HX6 := Lib.hid (And.intro ho6 (And.intro (HX5.out.2.1.app (by omega) (by omega) hk6 hs6 hb6) (And.intro r6 t6)))
      have x6 : w6.cell? ⟨w.heap.size + 1, 3, none⟩ = some (.slice A5 k c5) := t6.cell 3
      have f6 : w6.frozen? ⟨w.heap.size + 1, 3, none⟩ = false := t6.free 3
      clear ho6 hk6 hs6 hb6 t6 r6
      refine wpAnyZ_one (i := 5) (by kernel_rfl) rfl (fun K hK => ?_)
      refine step_append_run rfl _ _ _ rfl _ _ _ _ rfl rfl hrun ?_
      refine hK.out _ _ (x6) (fun hHeld => ?_)
      clear hK K
      try simp only [Act.put, List.setIfInBounds_toArray, List.set_cons_zero, List.set_cons_succ, List.getElem_toArray, List.getElem_cons_zero, List.getElem_cons_succ]
      refine wpAnyZ_take (i := 6) (v := ?_) rfl (by kernel_rfl) (fun _ _ _ h => h) (Or.inl ⟨by rfl, ?_⟩) (by assumption) ?_
      rotate_left
      · intro w hSw
        try dsimp only at hSw
        go_simp
        try with_reducible rfl
      rotate_left
      try simp only [Act.put, List.setIfInBounds_toArray, List.set_cons_zero, List.set_cons_succ, List.getElem_toArray, List.getElem_cons_zero, List.getElem_cons_succ]
      refine wpAnyZ_last (by kernel_rfl) rfl (fun K hK => ?_)
      rw [if_pos (by rfl)]
      go_wp2_with fail
      refine hK.out _ _ ?_
      clear hK K
      try simp only [Act.put, List.setIfInBounds_toArray, List.set_cons_zero, List.set_cons_succ, List.getElem_toArray, List.getElem_cons_zero, List.getElem_cons_succ]
      refine wpAnyZ_done (by kernel_rfl) ?_ _
      obtain ⟨W6, hW6⟩ : ∃ W6, W6 = w6.setCell ⟨w.heap.size + 1, 3, none⟩ (.slice A6 (k + 1) c6) := ⟨_, rfl⟩
      rw [← hW6]
      have HZ := Lib.hid (show W6.ownsRow (w.heap.size + 2) 65 2 (.slice A6 (k + 1) c6) (k + 1) (acc.flatMap decC ++ decC (q, yb)) ∧ TkW w B T (bxT t2 er2 o2) W6 ∧ TBox W6 w.heap.size 63 #[.int .i64 0, .int .i64 0, .int .i64 0, .slice none 0 0] ∧ TBox W6 (w.heap.size + 1) 63 #[.int .i64 c, .int .i64 ep, .int .i64 d, .slice A6 (k + 1) c6] from by
        rw [hW6]
        exact ⟨owns_setCell HX6.out.1 _ _ (by simp), HX6.out.2.1.own _ _ _ (by omega) (by omega), HX6.out.2.2.1.far _ _ _ (by omega), HX6.out.2.2.2.set 3 _⟩)
      clear hW6 hHeld x6 x5 f6 g3 hrun
      go_wp2_with fail
      go_roundw
      case rel => exact ⟨k + 1, acc ++ [(q, yb)], o2, t2, er2, _, by go_num, by omega, by rw [List.length_append, HACC.out]; rfl, HST.out, by omega, by rw [List.flatMap_append]; simpa using HZ.out.1, HZ.out.2.1, HZ.out.2.2.1, HZ.out.2.2.2⟩
      case measure => simp [intOf]; omega
    · obtain rfl : k = m := by omega
      have hfin := HST.out
      rw [Nat.sub_self] at hfin
      unfold decsSt at hfin
      subst hfin
      have hki : ¬ (k : Int) < (k : Int) := by omega
      have p0 : wr.cell? ⟨w.heap.size + 1, 0, none⟩ = some (.int .i64 c) := HX.out.2.2.2.cell 0
      have p1 : wr.cell? ⟨w.heap.size + 1, 1, none⟩ = some (.int .i64 ep) := HX.out.2.2.2.cell 1
      have p2 : wr.cell? ⟨w.heap.size + 1, 2, none⟩ = some (.int .i64 d) := HX.out.2.2.2.cell 2
      have y0 : wr.cell? ⟨w.heap.size, 0, none⟩ = some (.int .i64 0) := HX.out.2.2.1.cell 0
      have y1 : wr.cell? ⟨w.heap.size, 1, none⟩ = some (.int .i64 0) := HX.out.2.2.1.cell 1
      have y2 : wr.cell? ⟨w.heap.size, 2, none⟩ = some (.int .i64 0) := HX.out.2.2.1.cell 2
      have y3 : wr.cell? ⟨w.heap.size, 3, none⟩ = some (.slice none 0 0) := HX.out.2.2.1.cell 3
      have f0 := HX.out.2.2.1.free 0
      have f1 := HX.out.2.2.1.free 1
      have f2 := HX.out.2.2.1.free 2
      have f3 := HX.out.2.2.1.free 3
      obtain ⟨Wz, hWz⟩ : ∃ Wz, Wz = ((((wr.setCell ⟨w.heap.size, 0, none⟩ (.int .i64 c)).setCell ⟨w.heap.size, 1, none⟩ (.int .i64 ep)).setCell ⟨w.heap.size, 2, none⟩ (.int .i64 d)).setCell ⟨w.heap.size, 3, none⟩ (.slice A5 k c5)) := ⟨_, rfl⟩
      have tz : TBox Wz w.heap.size 63 #[.int .i64 c, .int .i64 ep, .int .i64 d, .slice A5 k c5] := by
        rw [hWz]
        exact (((HX.out.2.2.1.set 0 _).set 1 _).set 2 _).set 3 _
      have HZ := Lib.hid (show Wz.ownsRow w.heap.size 65 2 (.slice A5 k c5) k (acc.flatMap decC) ∧ TkW w B T (bxT t er o1) Wz from by
        rw [hWz]
        refine ⟨?_, (((HX.out.2.1.own _ _ _ (Nat.le_refl _) (by omega)).own _ _ _ (Nat.le_refl _) (by omega)).own _ _ _ (Nat.le_refl _) (by omega)).own _ _ _ (Nat.le_refl _) (by omega)⟩
        have := owns_setCell (owns_setCell (owns_setCell (owns_setCell HX.out.1 ⟨w.heap.size, 0, none⟩ (.int .i64 c) (by simp)) ⟨w.heap.size, 1, none⟩ (.int .i64 ep) (by simp)) ⟨w.heap.size, 2, none⟩ (.int .i64 d) (by simp)) ⟨w.heap.size, 3, none⟩ (.slice A5 k c5) (by simp)
        exact owns_less this (by omega))
      have z0 : Wz.cell? ⟨w.heap.size, 0, none⟩ = some (.int .i64 c) := tz.cell 0
      have z1 : Wz.cell? ⟨w.heap.size, 1, none⟩ = some (.int .i64 ep) := tz.cell 1
      have z2 : Wz.cell? ⟨w.heap.size, 2, none⟩ = some (.int .i64 d) := tz.cell 2
      have z3 : Wz.cell? ⟨w.heap.size, 3, none⟩ = some (.slice A5 k c5) := tz.cell 3
      have HWz := Lib.hid hWz
      clear hWz tz
      go_wp2_with fail
      rw [← HWz.out]
      refine bodyPost_ret (v := .agg #[.int .i64 c, .int .i64 ep, .int .i64 d, .slice A5 k c5]) (by simp [results, Try.results41, go_sem, z0, z1, z2, z3]) rfl ⟨A5, c5, by rw [HACC.out], by rw [HACC.out]; exact HZ.out.1, HZ.out.2⟩
end Go.Proofs.Ythnajmfbomedlaa

