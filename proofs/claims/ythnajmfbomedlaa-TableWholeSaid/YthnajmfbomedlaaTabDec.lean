/- table.Decide's function: a decision put into a row; old memory is as it was. -/
import Derived.Test.YthnajmfbomedlaaTabCat
import Derived.Test.YthnajmfbomedlaaSlCat
import Derived.Test.YthnajmfbomedlaaLast
import Derived.Test.YthnajmfbomedlaaTaking
set_option linter.unusedVariables false
set_option linter.unusedSimpArgs false
namespace Go.Proofs.Ythnajmfbomedlaa
open Go.RowKit Copyhold

theorem decsElem : Elem Try.prog 99 61 (.slice none 0 0) 1 24 := ⟨Try.underlying99, by kernel_rfl, by kernel_rfl, by decide⟩
theorem placeN_le : ∀ (l : List Int) (n : Int), (placeN l n).1 ≤ l.length
  | [], _ => Nat.le_refl _
  | m :: r, n => by
    rw [placeN]
    split
    · exact Nat.zero_le _
    · have := placeN_le r n
      simp only [List.length_cons]
      omega

/-- a decision put in -/
def insD (l : List (Int × Bool)) (sq : Int) (yes : Bool) : List (Int × Bool) := l.take (placeN (l.map (·.1)) sq).1 ++ ([(sq, yes)] ++ l.drop (placeN (l.map (·.1)) sq).1)
theorem insD_len (l : List (Int × Bool)) (sq : Int) (yes : Bool) : (insD l sq yes).length = l.length + 1 := by
  have h := placeN_le (l.map (·.1)) sq
  rw [List.length_map] at h
  unfold insD
  rw [List.length_append, List.length_append, List.length_take, List.length_drop]
  simp
  omega

/-- a row that is handed back -/
def RowIs (w : World) (r : TRow) (e : Ending) (w' : World) : Prop :=
  ∃ A c, e = .returned (.agg #[.int .i64 r.client, .int .i64 r.epoch, .int .i64 r.done, .slice A r.l.length c]) ∧ SlOf DecR w' 2 (.slice A r.l.length c) r.l ∧ Below w.heap.size w w'

theorem decR_one (a : Int × Bool) (cs : List Value) (h : DecR a cs) : ∀ u ∈ cs, u.oneCell' = true := by
  obtain ⟨rfl, _⟩ := h
  intro u hu
  simp at hu
  rcases hu with rfl | rfl <;> rfl

set_option maxRecDepth 100000 in
set_option maxHeartbeats 4000000 in
theorem decide_put (r : TRow) (A : Option Addr) (c : Nat) (sq : Int) (yes : Bool) (p8 p9 : Nat) (w : World) (hsl : SlOf DecR w 2 (.slice A r.l.length c) r.l) (hll : r.l.length ≤ 100000)
    (h8 : w.cell? ⟨p8, 0, none⟩ = some (.int .i64 sq)) (h9 : w.cell? ⟨p9, 0, none⟩ = some (.bool yes)) (s1 : -9223372036854775808 ≤ sq) (s2 : sq ≤ 9223372036854775807) :
    Calls Try.prog 33 #[.agg #[.int .i64 r.client, .int .i64 r.epoch, .int .i64 r.done, .slice A r.l.length c], .pointer (some ⟨p8, 0, none⟩), .pointer (some ⟨p9, 0, none⟩)] w (RowIs w ⟨r.client, r.epoch, r.done, insD r.l sq yes⟩) := by
  obtain ⟨cl, ep, dn, l⟩ := r
  simp only at hsl hll ⊢
  have hlen := insD_len l sq yes
  have hins : insD l sq yes = l.take (placeN (l.map (·.1)) sq).1 ++ ([(sq, yes)] ++ l.drop (placeN (l.map (·.1)) sq).1) := rfl
  have hple := placeN_le (l.map (·.1)) sq
  rw [List.length_map] at hple
  obtain ⟨W1, hW1⟩ : ∃ W1, W1 = (w.alloc (.cells #[.int .i64 cl, .int .i64 ep, .int .i64 dn, .slice A l.length c] 63)).alloc (.cells #[.int .i64 0, .int .i64 0, .int .i64 0, .slice none 0 0] 63) := ⟨_, rfl⟩
  have hb0 : Below w.heap.size w (w.alloc (.cells #[.int .i64 cl, .int .i64 ep, .int .i64 dn, .slice A l.length c] 63)) := (Below.refl _ _).alloc (Nat.le_refl _) _
  have hb1 : Below w.heap.size w W1 := by rw [hW1]; exact hb0.alloc (by simp) _
  have hb01 : Below (w.heap.size + 1) (w.alloc (.cells #[.int .i64 cl, .int .i64 ep, .int .i64 dn, .slice A l.length c] 63)) W1 := by rw [hW1]; exact (Below.refl _ _).alloc (by simp) _
  have tb : TBox W1 w.heap.size 63 #[.int .i64 cl, .int .i64 ep, .int .i64 dn, .slice A l.length c] := by
    rw [hW1]
    exact (TBox.new _ _ _).below ((Below.refl _ _).alloc (Nat.le_refl _) _)
  have tg : TBox W1 (w.heap.size + 1) 63 #[.int .i64 0, .int .i64 0, .int .i64 0, .slice none 0 0] := by
    rw [hW1]
    have h := TBox.new (w.alloc (.cells #[.int .i64 cl, .int .i64 ep, .int .i64 dn, .slice A l.length c] 63)) 63 #[.int .i64 0, .int .i64 0, .int .i64 0, .slice none 0 0]
    rw [show (w.alloc (.cells #[.int .i64 cl, .int .i64 ep, .int .i64 dn, .slice A l.length c] 63)).heap.size = w.heap.size + 1 from by simp] at h
    exact h
  have hs1 : W1.heap.size = w.heap.size + 2 := by rw [hW1]; simp
  have h8' := cell_keep hb1 h8
  have h9' := cell_keep hb1 h9
  have HS1 := Lib.hid (hsl.below hb1)
  have HC := Lib.hid (table_seqOf l A c sq W1 (hsl.below hb1) (by omega) s1 s2)
  have hcap : l.length ≤ c := by
    obtain ⟨css, h, _⟩ := hsl
    obtain ⟨_, _, he, hc, _⟩ := h.shape
    simp only [Value.slice.injEq] at he
    omega
  generalize placeN (l.map (·.1)) sq = p at *
  obtain ⟨i, t⟩ := p
  simp only at hins hple HC
  have hpre := fun W : World => run_pre decElem A l.length c i (by omega) W
  have hpost := fun W : World => run_post decElem A l.length c i hple W
  have HPP := Lib.hid (And.intro hpre hpost)
  have HI := Lib.hid (And.intro hins hlen)
  have HX := Lib.hid (And.intro tb tg)
  have HW1 := Lib.hid hW1
  have HB1 := Lib.hid hb1
  have HS := Lib.hid hs1
  clear hlen hins hW1 hb0 hb1 hb01 hsl hpre hpost hs1 tb tg
  go_enter Try.func33, Try.ntmps33
  have hp8 := cell_lt h8
  have hp9 := cell_lt h9
  go_wp2_with fail
  rw [← HW1.out]
  clear h8 h9
  refine HC.out.mono ?_
  rintro e w2 ⟨rfl, hb2⟩
  have d3 : w2.cell? ⟨w.heap.size, 3, none⟩ = some (.slice A l.length c) := (HX.out.1.below hb2).cell 3
  have d8 := cell_keep hb2 h8'
  have d9 := cell_keep hb2 h9'
  have HB2 := Lib.hid hb2
  clear hb2 h8' h9'
  go_wp2_with fail
  obtain ⟨css, hfit, hslc⟩ := (HS1.out.below HB2.out).parts
  have HF := Lib.hid (And.intro hfit hslc)
  have hpre := HPP.out.1
  have hpost := HPP.out.2
  obtain ⟨A', hA'⟩ : ∃ A', A' = cutA A c i 2 := ⟨_, rfl⟩
  obtain ⟨n', hn'⟩ : ∃ n', n' = l.length - i := ⟨_, rfl⟩
  obtain ⟨c', hc'⟩ : ∃ c', c' = c - i := ⟨_, rfl⟩
  simp only [← hA', ← hn', ← hc'] at hpost
  have HL := Lib.hid (And.intro hA' (And.intro hn' hc'))
  have hpiece := HF.out.1.post HF.out.2 i hple
  rw [← hA', ← hn', ← hc'] at hpiece
  have HPI := Lib.hid hpiece
  clear hA' hn' hc' hpiece
  have hi0 : (0 : Int) ≤ (i : Int) := by omega
  have hi1 : (i : Int) ≤ (l.length : Int) := by omega
  have hi2 : (i : Int) ≤ (c : Int) := by omega
  clear hfit hslc
  refine wp_region_z (S := fun V => V.cell? ⟨w.heap.size, 3, none⟩ = some (.slice A l.length c) ∧ V.cell? ⟨p8, 0, none⟩ = some (.int .i64 sq) ∧ V.cell? ⟨p9, 0, none⟩ = some (.bool yes)) 15 (by kernel_rfl) (⟨d3, d8, d9⟩) (fun hHeld => ?_)
  refine wpAnyZ_take (i := 0) (v := ?_) rfl (by kernel_rfl) (fun _ _ _ h => h) (Or.inl ⟨by rfl, ?_⟩) (by assumption) ?_
  rotate_left
  · intro w hSw
    try dsimp only at hSw
    go_simp
    try with_reducible rfl
  rotate_left
  try simp only [Act.put, List.setIfInBounds_toArray, List.set_cons_zero, List.set_cons_succ, List.getElem_toArray, List.getElem_cons_zero, List.getElem_cons_succ]
  refine wpAnyZ_take (i := 1) (v := ?_) rfl (by kernel_rfl) (fun _ _ _ h => h) (Or.inl ⟨by rfl, ?_⟩) (by assumption) ?_
  rotate_left
  · intro w hSw
    try dsimp only at hSw
    go_simp
    try with_reducible rfl
  rotate_left
  try simp only [Act.put, List.setIfInBounds_toArray, List.set_cons_zero, List.set_cons_succ, List.getElem_toArray, List.getElem_cons_zero, List.getElem_cons_succ]
  refine wpAnyZ_take (i := 2) (v := ?_) rfl (by kernel_rfl) (fun _ _ _ h => h) (Or.inl ⟨by rfl, ?_⟩) (by assumption) ?_
  rotate_left
  · intro w hSw
    try dsimp only at hSw
    go_simp
    try with_reducible rfl
  rotate_left
  try simp only [Act.put, List.setIfInBounds_toArray, List.set_cons_zero, List.set_cons_succ, List.getElem_toArray, List.getElem_cons_zero, List.getElem_cons_succ]
  refine wpAnyZ_take (i := 3) (v := ?_) rfl (by kernel_rfl) (fun _ _ _ h => h) (Or.inl ⟨by rfl, ?_⟩) (by assumption) ?_
  rotate_left
  · intro w hSw
    try dsimp only at hSw
    go_simp
    try with_reducible rfl
  rotate_left
  try simp only [Act.put, List.setIfInBounds_toArray, List.set_cons_zero, List.set_cons_succ, List.getElem_toArray, List.getElem_cons_zero, List.getElem_cons_succ]
  refine wpAnyZ_take (i := 4) (v := ?_) rfl (by kernel_rfl) (fun _ _ _ h => h) (Or.inl ⟨by rfl, ?_⟩) (by assumption) ?_
  rotate_left
  · intro w hSw
    try dsimp only at hSw
    go_simp
    try with_reducible rfl
  rotate_left
  try simp only [Act.put, List.setIfInBounds_toArray, List.set_cons_zero, List.set_cons_succ, List.getElem_toArray, List.getElem_cons_zero, List.getElem_cons_succ]
  refine wpAnyZ_take (i := 5) (v := ?_) rfl (by kernel_rfl) (fun _ _ _ h => h) (Or.inl ⟨by rfl, ?_⟩) (by assumption) ?_
  rotate_left
  · intro w hSw
    try dsimp only at hSw
    go_simp
    try with_reducible rfl
  rotate_left
  try simp only [Act.put, List.setIfInBounds_toArray, List.set_cons_zero, List.set_cons_succ, List.getElem_toArray, List.getElem_cons_zero, List.getElem_cons_succ]
  refine wpAnyZ_take (i := 6) (v := ?_) rfl (by kernel_rfl) (fun _ _ _ h => h) (Or.inl ⟨by rfl, ?_⟩) (by assumption) ?_
  rotate_left
  · intro w hSw
    try dsimp only at hSw
    go_simp
    try with_reducible rfl
  rotate_left
  try simp only [Act.put, List.setIfInBounds_toArray, List.set_cons_zero, List.set_cons_succ, List.getElem_toArray, List.getElem_cons_zero, List.getElem_cons_succ]
  refine wpAnyZ_take (i := 8) (v := ?_) rfl (by kernel_rfl) (fun _ _ _ h => h) (Or.inl ⟨by rfl, ?_⟩) (by assumption) ?_
  rotate_left
  · intro w hSw
    try dsimp only at hSw
    go_simp
    try with_reducible rfl
  rotate_left
  try simp only [Act.put, List.setIfInBounds_toArray, List.set_cons_zero, List.set_cons_succ, List.getElem_toArray, List.getElem_cons_zero, List.getElem_cons_succ]
  refine wpAnyZ_take (i := 9) (v := ?_) rfl (by kernel_rfl) (fun _ _ _ h => h) (Or.inl ⟨by rfl, ?_⟩) (by assumption) ?_
  rotate_left
  · intro w hSw
    try dsimp only at hSw
    go_simp
    try with_reducible rfl
  rotate_left
  try simp only [Act.put, List.setIfInBounds_toArray, List.set_cons_zero, List.set_cons_succ, List.getElem_toArray, List.getElem_cons_zero, List.getElem_cons_succ]
  refine wpAnyZ_take (i := 10) (v := ?_) rfl (by kernel_rfl) (fun _ _ _ h => h) (Or.inl ⟨by rfl, ?_⟩) (by assumption) ?_
  rotate_left
  · intro w hSw
    try dsimp only at hSw
    go_simp
    try with_reducible rfl
  rotate_left
  try simp only [Act.put, List.setIfInBounds_toArray, List.set_cons_zero, List.set_cons_succ, List.getElem_toArray, List.getElem_cons_zero, List.getElem_cons_succ]
  refine wpAnyZ_take (i := 11) (v := ?_) rfl (by kernel_rfl) (fun _ _ _ h => h) (Or.inl ⟨by rfl, ?_⟩) (by assumption) ?_
  rotate_left
  · intro w hSw
    try dsimp only at hSw
    go_simp
    try with_reducible rfl
  rotate_left
  try simp only [Act.put, List.setIfInBounds_toArray, List.set_cons_zero, List.set_cons_succ, List.getElem_toArray, List.getElem_cons_zero, List.getElem_cons_succ]
  refine wpAnyZ_one (i := 7) (by kernel_rfl) rfl (fun K hK => ?_)
  rw [if_pos (by rfl)]
  go_wp2_with fail
  refine hK.out _ _ (⟨cell_alloc _ hHeld.1, cell_alloc _ hHeld.2.1, cell_alloc _ hHeld.2.2⟩) (fun hHeld => ?_)
  clear hK K
  try simp only [Act.put, List.setIfInBounds_toArray, List.set_cons_zero, List.set_cons_succ, List.getElem_toArray, List.getElem_cons_zero, List.getElem_cons_succ]
  refine wpAnyZ_one (i := 12) (by kernel_rfl) rfl (fun K hK => ?_)
  refine step_build_run rfl _ _ _ rfl _ (by simp [Act.eval]) _ _ (run_build3 decsElem (.slice A i c) (.slice (some ⟨w2.heap.size, 0, none⟩) 1 1) (.slice A' n' c') rfl rfl rfl _) ?_
  refine hK.out _ _ (⟨cell_alloc _ hHeld.1, cell_alloc _ hHeld.2.1, cell_alloc _ hHeld.2.2⟩) (fun hHeld => ?_)
  clear hK K
  try simp only [Act.put, List.setIfInBounds_toArray, List.set_cons_zero, List.set_cons_succ, List.getElem_toArray, List.getElem_cons_zero, List.getElem_cons_succ]
  refine wpAnyZ_one (i := 13) (by kernel_rfl) rfl (fun K hK => ?_)
  obtain ⟨w3, hw3⟩ : ∃ w3, w3 = w2.drew.alloc (.cells #[.int .i64 sq, .bool yes] 65) := ⟨_, rfl⟩
  have b23 : Below w2.heap.size w2 w3 := by rw [hw3]; exact (below_dn (Below.refl _ _) 1).alloc (Nat.le_refl _) _
  have hs3 : w3.heap.size = w2.heap.size + 1 := by rw [hw3]; simp
  have sl2 : Sl w3 2 (.slice (some ⟨w2.heap.size, 0, none⟩) 1 1) 1 [.int .i64 sq, .bool yes] := by rw [hw3]; exact sl_one (w := w2.drew) (t := 65) [.int .i64 sq, .bool yes]
  have hcats := cats3 (w := w3) (k := 2) (t := 61) (p1 := (.slice A i c, i, (css.take i).flatten)) (p2 := (.slice (some ⟨w2.heap.size, 0, none⟩) 1 1, 1, [.int .i64 sq, .bool yes])) (p3 := (.slice A' n' c', n', (css.drop i).flatten)) ((HF.out.1.pre HF.out.2 i hple).below b23) sl2 (HPI.out.below b23) ((HF.out.1.take i).cells decR_one) (fun u hu => by simp at hu; rcases hu with rfl | rfl <;> rfl) ((HF.out.1.drop i).cells decR_one)
  have hcc := concat_decs _ _ _ hcats (by simp) (by simp [catN]; have := HL.out.2.1; omega)
  rw [show catN [(Value.slice A i c, i, (css.take i).flatten), (Value.slice (some ⟨w2.heap.size, 0, none⟩) 1 1, 1, [Value.int .i64 sq, Value.bool yes]), (Value.slice A' n' c', n', (css.drop i).flatten)] = l.length + 1 from by simp [catN]; have := HL.out.2.1; omega] at hcc
  have HCC := Lib.hid hcc
  clear hcc
  have HB3 := Lib.hid b23
  rw [hs3, hw3] at HCC
  clear hcats sl2 b23 hs3 hw3
  rw [if_pos (by rfl)]
  go_wp2_with fail
  refine HCC.out.mono ?_
  rintro e w5 ⟨v5, rfl, ho5, hb5⟩
  obtain ⟨A5, c5, rfl, -, -⟩ := (Sl.of_owns ho5).shape
  have HO5 := Lib.hid ho5
  have HB5 := Lib.hid hb5
  clear ho5 hb5
  refine hK.out _ _ (⟨cell_keep HB5.out hHeld.1, cell_keep HB5.out hHeld.2.1, cell_keep HB5.out hHeld.2.2⟩) (fun hHeld => ?_)
  clear hK K
  try simp only [Act.put, List.setIfInBounds_toArray, List.set_cons_zero, List.set_cons_succ, List.getElem_toArray, List.getElem_cons_zero, List.getElem_cons_succ]
  refine wpAnyZ_take (i := 14) (v := ?_) rfl (by kernel_rfl) (fun _ _ _ h => h) (Or.inl ⟨by rfl, ?_⟩) (by assumption) ?_
  rotate_left
  · intro w hSw
    try dsimp only at hSw
    go_simp
    try with_reducible rfl
  rotate_left
  try simp only [Act.put, List.setIfInBounds_toArray, List.set_cons_zero, List.set_cons_succ, List.getElem_toArray, List.getElem_cons_zero, List.getElem_cons_succ]
  have hB : Below w2.heap.size w2 w5 := by
    have h := HB5.out
    exact (((below_dn (Below.refl _ _) 1).alloc (Nat.le_refl _) _).alloc (by simp) _).trans (h.mono (by simp; omega))
  have tb5 := (HX.out.1.below HB2.out).below hB
  have tg5 := (HX.out.2.below HB2.out).below hB
  have f5 : w5.frozen? ⟨w.heap.size, 3, none⟩ = false := tb5.free 3
  have d5 : w5.cell? ⟨w.heap.size, 3, none⟩ = some (.slice A l.length c) := tb5.cell 3
  have HSL5 := Lib.hid (And.intro (Sl.of_owns HO5.out) (At.of_owns HO5.out))
  have HTB := Lib.hid (And.intro tb5 tg5)
  have HB := Lib.hid hB
  clear tb5 tg5 hB HO5
  refine wpAnyZ_last (by kernel_rfl) rfl (fun K hK => ?_)
  rw [if_pos (by rfl)]
  go_wp2_with fail
  refine hK.out _ _ ?_
  clear hK K
  try simp only [Act.put, List.setIfInBounds_toArray, List.set_cons_zero, List.set_cons_succ, List.getElem_toArray, List.getElem_cons_zero, List.getElem_cons_succ]
  refine wpAnyZ_done (by kernel_rfl) ?_ _
  obtain ⟨W6, hW6⟩ : ∃ W6, W6 = w5.setCell ⟨w.heap.size, 3, none⟩ (.slice A5 (l.length + 1) c5) := ⟨_, rfl⟩
  rw [← hW6]
  have tb6 : TBox W6 w.heap.size 63 #[.int .i64 cl, .int .i64 ep, .int .i64 dn, .slice A5 (l.length + 1) c5] := by rw [hW6]; exact HTB.out.1.set 3 _
  have tg6 : TBox W6 (w.heap.size + 1) 63 #[.int .i64 0, .int .i64 0, .int .i64 0, .slice none 0 0] := by rw [hW6]; exact HTB.out.2.far _ _ _ (by omega)
  have e0 : W6.cell? ⟨w.heap.size, 0, none⟩ = some (.int .i64 cl) := tb6.cell 0
  have e1 : W6.cell? ⟨w.heap.size, 1, none⟩ = some (.int .i64 ep) := tb6.cell 1
  have e2 : W6.cell? ⟨w.heap.size, 2, none⟩ = some (.int .i64 dn) := tb6.cell 2
  have e3 : W6.cell? ⟨w.heap.size, 3, none⟩ = some (.slice A5 (l.length + 1) c5) := tb6.cell 3
  have g0 : W6.cell? ⟨w.heap.size + 1, 0, none⟩ = some (.int .i64 0) := tg6.cell 0
  have g1 : W6.cell? ⟨w.heap.size + 1, 1, none⟩ = some (.int .i64 0) := tg6.cell 1
  have g2 : W6.cell? ⟨w.heap.size + 1, 2, none⟩ = some (.int .i64 0) := tg6.cell 2
  have g3 : W6.cell? ⟨w.heap.size + 1, 3, none⟩ = some (.slice none 0 0) := tg6.cell 3
  have k0 := tg6.free 0
  have k1 := tg6.free 1
  have k2 := tg6.free 2
  have k3 := tg6.free 3
  have HW6 := Lib.hid hW6
  clear hW6 tb6 tg6 hHeld d3 d8 d9 hpre hpost f5 d5
  go_wp2_with fail
  refine bodyPost_ret (v := .agg #[.int .i64 cl, .int .i64 ep, .int .i64 dn, .slice A5 (l.length + 1) c5]) (by simp [results, Try.results33, go_sem, g0, g1, g2, g3]) rfl ⟨A5, c5, by rw [HI.out.2], ?_, ?_⟩
  · have hfit : Fit DecR 2 (css.take i ++ ([[.int .i64 sq, .bool yes]] ++ css.drop i)) (insD l sq yes) := by
      rw [HI.out.1]
      exact (HF.out.1.take i).append ((Fit.one (R := DecR) (k := 2) (cs := [.int .i64 sq, .bool yes]) (a := (sq, yes)) rfl ⟨rfl, s1, s2⟩).append (HF.out.1.drop i))
    have hb2 := HB2.out.size
    have hsz := HS.out
    have hs5 := HSL5.out.1
    refine hfit.slOf ?_
    rw [show ((css.take i ++ ([[Value.int .i64 sq, Value.bool yes]] ++ css.drop i)).flatten) = catL [(Value.slice A i c, i, (css.take i).flatten), (Value.slice (some ⟨w2.heap.size, 0, none⟩) 1 1, 1, [Value.int .i64 sq, Value.bool yes]), (Value.slice A' n' c', n', (css.drop i).flatten)] from by simp [catL], HI.out.2]
    refine Sl.frame HSL5.out.1 HSL5.out.2 (fun b hb _ => ?_) ?_
    · simp at hb
      rw [HW6.out]
      repeat rw [heap_setCell_far _ _ _ _ (by simp; omega)]
    · rw [HW6.out]
      simp
  · have hbb : Below w.heap.size w w5 := below_trans (below_trans HB1.out HB2.out HB1.out.size) HB.out (Nat.le_trans HB1.out.size HB2.out.size)
    rw [HW6.out]
    exact ((((hbb.setCell (p := ⟨w.heap.size, 3, none⟩) (Nat.le_refl _) _).setCell (p := ⟨w.heap.size + 1, 0, none⟩) (Nat.le_succ _) _).setCell (p := ⟨w.heap.size + 1, 1, none⟩) (Nat.le_succ _) _).setCell (p := ⟨w.heap.size + 1, 2, none⟩) (Nat.le_succ _) _).setCell (p := ⟨w.heap.size + 1, 3, none⟩) (Nat.le_succ _) _
end Go.Proofs.Ythnajmfbomedlaa

