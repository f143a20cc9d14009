/- table.changed, with each of its two functions: rows in which a client's row is turned, or put in; old memory is as it was. -/
import Derived.Test.YthnajmfbomedlaaTabFor
import Derived.Deep.RegionHeld3
set_option linter.unusedVariables false
set_option linter.unusedSimpArgs false
namespace Go.Proofs.Ythnajmfbomedlaa
open Go.RowKit Copyhold

theorem rowsElem : Elem Try.prog 119 22 (.slice none 0 0) 1 24 := ⟨Try.underlying119, by kernel_rfl, by kernel_rfl, by decide⟩
/-- rows that are handed back -/
def RowsRet (w : World) (rs : List TRow) (e : Ending) (w' : World) : Prop := ∃ A c, e = .returned (.slice A rs.length c) ∧ RowsIn w' (.slice A rs.length c) rs ∧ Below w.heap.size w w'
theorem rowR_one {w : World} (a : TRow) (cs : List Value) (h : RowR w a cs) : ∀ u ∈ cs, u.oneCell' = true := by
  obtain ⟨lv, rfl, hs, _⟩ := h
  obtain ⟨A, c, rfl⟩ := hs.shape
  intro u hu
  simp at hu
  rcases hu with rfl | rfl | rfl | rfl <;> rfl

set_option maxRecDepth 100000 in
set_option maxHeartbeats 8000000 in
theorem changed_none_dec (rs : List TRow) (A : Option Addr) (c : Nat) (n ep : Int) (p8 p9 : Nat) (f : TRow → TRow) (w : World) (hr : RowsIn w (.slice A rs.length c) rs) (hn : rs.length ≤ 100000) (n1 : -9223372036854775808 ≤ n) (n2 : n ≤ 9223372036854775807) (e1 : -9223372036854775808 ≤ ep) (e2 : ep ≤ 9223372036854775807)
    (hclo : ∀ (W : World) (r : TRow) (A : Option Addr) (c : Nat), Below w.heap.size w W → SlOf DecR W 2 (.slice A r.l.length c) r.l → r.l.length ≤ 100000 → i64ok r.client → i64ok r.epoch → i64ok r.done → Calls Try.prog 33 #[.agg #[.int .i64 r.client, .int .i64 r.epoch, .int .i64 r.done, .slice A r.l.length c], .pointer (some ⟨p8, 0, none⟩), .pointer (some ⟨p9, 0, none⟩)] W (RowIs W (f r))) (i : Nat) (hp : placeN (rs.map (·.client)) n = (i, false)) (hf : (f ⟨n, ep, 0, []⟩).l.length ≤ 8796093022207 ∧ i64ok (f ⟨n, ep, 0, []⟩).client ∧ i64ok (f ⟨n, ep, 0, []⟩).epoch ∧ i64ok (f ⟨n, ep, 0, []⟩).done) :
    Calls Try.prog 32 #[.slice A rs.length c, .int .i64 n, .int .i64 ep, .func (.func 33) #[] #[.pointer (some ⟨p8, 0, none⟩), .pointer (some ⟨p9, 0, none⟩)]] w (RowsRet w (rs.take i ++ f ⟨n, ep, 0, []⟩ :: rs.drop i)) := by
  have hil := placeN_le (rs.map (·.client)) n
  rw [hp, List.length_map] at hil
  simp only at hil
  have hcap : rs.length ≤ c := by
    obtain ⟨css, h, _⟩ := hr
    obtain ⟨_, _, he, hc, _⟩ := h.shape
    simp only [Value.slice.injEq] at he
    omega
  obtain ⟨W1, hW1⟩ : ∃ W1, W1 = w.alloc (.cells #[.int .i64 n, .int .i64 ep, .int .i64 0, .slice none 0 0] 63) := ⟨_, rfl⟩
  have hb1 : Below w.heap.size w W1 := by rw [hW1]; exact (Below.refl _ _).alloc (Nat.le_refl _) _
  have HT1 := Lib.hid (show TBox W1 w.heap.size 63 #[.int .i64 n, .int .i64 ep, .int .i64 0, .slice none 0 0] from by rw [hW1]; exact TBox.new _ _ _)
  have HRO := Lib.hid (table_rowOf rs A c n W1 (hr.below hb1) (by omega) n1 n2)
  rw [hp] at HRO
  have hpre := fun W : World => run_pre rowElem A rs.length c i (by omega) W
  have hpost := fun W : World => run_post rowElem A rs.length c i (by omega) W
  obtain ⟨css, hfit, hslc⟩ := SlOf.parts hr
  have hpiece := hfit.post hslc i (by omega)
  obtain ⟨A', hA'⟩ : ∃ A', A' = cutA A c i 4 := ⟨_, rfl⟩
  obtain ⟨n', hn'⟩ : ∃ n', n' = rs.length - i := ⟨_, rfl⟩
  obtain ⟨c', hc'⟩ : ∃ c', c' = c - i := ⟨_, rfl⟩
  simp only [← hA', ← hn', ← hc'] at hpost
  rw [← hA', ← hn', ← hc'] at hpiece
  have HPI := Lib.hid (And.intro (hfit.pre hslc i hil) hpiece)
  have HFIT := Lib.hid hfit
  have HPP := Lib.hid (And.intro hpre hpost)
  have HLL := Lib.hid hn'
  have HR := Lib.hid hr
  have HCLO := Lib.hid hclo
  have HF := Lib.hid hf
  have HW1 := Lib.hid hW1
  have HB1 := Lib.hid hb1
  clear hpre hpost hA' hn' hc' hr hclo hf hW1 hb1 hp hpiece hfit hslc
  go_enter Try.func32, Try.ntmps32
  go_wp2_with fail
  rw [← HW1.out]
  refine HRO.out.mono ?_
  rintro e w2 ⟨rfl, hb2⟩
  have HT2 := Lib.hid (HT1.out.below hb2)
  have HB2 := Lib.hid (below_trans HB1.out hb2 HB1.out.size)
  clear hb2
  go_wp2_with fail
  have hpre := HPP.out.1
  have hpost := HPP.out.2
  try simp only [show ((i + 1 : Nat) : Int) = (i : Int) + 1 from rfl] at hpost
  have hi0 : (0 : Int) ≤ (i : Int) := by omega
  have hi1 : (i : Int) ≤ (rs.length : Int) := by omega
  have hi2 : (i : Int) ≤ (c : Int) := by omega
  refine wp_region_held_drew (S := fun V => V.cell? ⟨w.heap.size, 0, none⟩ = some (.int .i64 n) ∧ V.cell? ⟨w.heap.size, 1, none⟩ = some (.int .i64 ep) ∧ V.cell? ⟨w.heap.size, 2, none⟩ = some (.int .i64 0) ∧ V.cell? ⟨w.heap.size, 3, none⟩ = some (.slice none 0 0)) (by kernel_rfl) (⟨HT2.out.cell 0, HT2.out.cell 1, HT2.out.cell 2, HT2.out.cell 3⟩) (fun hHeld => ?_)
  refine wpAnyH_take (i := 0) (v := ?_) rfl (by kernel_rfl) (by kernel_rfl) (by kernel_rfl) (fun _ _ _ h => h) (Or.inl ⟨by rfl, ?_⟩) (by assumption) ?_
  rotate_left
  · intro w hSw
    try dsimp only at hSw
    go_simp
    try with_reducible rfl
  rotate_left
  try simp only [Act.put, List.setIfInBounds_toArray, List.set_cons_zero, List.set_cons_succ, List.getElem_toArray, List.getElem_cons_zero, List.getElem_cons_succ]
  refine wpAnyH_take (i := 1) (v := ?_) rfl (by kernel_rfl) (by kernel_rfl) (by kernel_rfl) (fun _ _ _ h => h) (Or.inl ⟨by rfl, ?_⟩) (by assumption) ?_
  rotate_left
  · intro w hSw
    try dsimp only at hSw
    go_simp
    try with_reducible rfl
  rotate_left
  try simp only [Act.put, List.setIfInBounds_toArray, List.set_cons_zero, List.set_cons_succ, List.getElem_toArray, List.getElem_cons_zero, List.getElem_cons_succ]
  refine wpAnyH_take (i := 2) (v := ?_) rfl (by kernel_rfl) (by kernel_rfl) (by kernel_rfl) (fun _ _ _ h => h) (Or.inl ⟨by rfl, ?_⟩) (by assumption) ?_
  rotate_left
  · intro w hSw
    try dsimp only at hSw
    go_simp
    try with_reducible rfl
  rotate_left
  try simp only [Act.put, List.setIfInBounds_toArray, List.set_cons_zero, List.set_cons_succ, List.getElem_toArray, List.getElem_cons_zero, List.getElem_cons_succ]
  refine wpAnyH_take (i := 3) (v := ?_) rfl (by kernel_rfl) (by kernel_rfl) (by kernel_rfl) (fun _ _ _ h => h) (Or.inl ⟨by rfl, ?_⟩) (by assumption) ?_
  rotate_left
  · intro w hSw
    try dsimp only at hSw
    go_simp
    try with_reducible rfl
  rotate_left
  try simp only [Act.put, List.setIfInBounds_toArray, List.set_cons_zero, List.set_cons_succ, List.getElem_toArray, List.getElem_cons_zero, List.getElem_cons_succ]
  refine wpAnyH_take (i := 4) (v := ?_) rfl (by kernel_rfl) (by kernel_rfl) (by kernel_rfl) (fun _ _ _ h => h) (Or.inl ⟨by rfl, ?_⟩) (by assumption) ?_
  rotate_left
  · intro w hSw
    try dsimp only at hSw
    go_simp
    try with_reducible rfl
  rotate_left
  try simp only [Act.put, List.setIfInBounds_toArray, List.set_cons_zero, List.set_cons_succ, List.getElem_toArray, List.getElem_cons_zero, List.getElem_cons_succ]
  refine wpAnyH_take (i := 7) (v := ?_) rfl (by kernel_rfl) (by kernel_rfl) (by kernel_rfl) (fun _ _ _ h => h) (Or.inl ⟨by rfl, ?_⟩) (by assumption) ?_
  rotate_left
  · intro w hSw
    try dsimp only at hSw
    go_simp
    try with_reducible rfl
  rotate_left
  try simp only [Act.put, List.setIfInBounds_toArray, List.set_cons_zero, List.set_cons_succ, List.getElem_toArray, List.getElem_cons_zero, List.getElem_cons_succ]
  refine wpAnyH_take (i := 8) (v := ?_) rfl (by kernel_rfl) (by kernel_rfl) (by kernel_rfl) (fun _ _ _ h => h) (Or.inl ⟨by rfl, ?_⟩) (by assumption) ?_
  rotate_left
  · intro w hSw
    try dsimp only at hSw
    go_simp
    try with_reducible rfl
  rotate_left
  try simp only [Act.put, List.setIfInBounds_toArray, List.set_cons_zero, List.set_cons_succ, List.getElem_toArray, List.getElem_cons_zero, List.getElem_cons_succ]
  refine wpAnyH_take (i := 9) (v := ?_) rfl (by kernel_rfl) (by kernel_rfl) (by kernel_rfl) (fun _ _ _ h => h) (Or.inl ⟨by rfl, ?_⟩) (by assumption) ?_
  rotate_left
  · intro w hSw
    try dsimp only at hSw
    go_simp
    try with_reducible rfl
  rotate_left
  try simp only [Act.put, List.setIfInBounds_toArray, List.set_cons_zero, List.set_cons_succ, List.getElem_toArray, List.getElem_cons_zero, List.getElem_cons_succ]
  refine wpAnyH_ready (rs := [5]) (by kernel_rfl) (by simp) ?_
  refine (AllReadyH.cons rfl (fun K hK => ?_) AllReadyH.nil)
  rw [if_pos (by rfl)]
  go_wp2_with fail
  refine (HCLO.out _ ⟨n, ep, 0, []⟩ none 0 (below_dn HB2.out 1) ⟨[], Sl.nil _ _, rfl, fun i cs a hc => by simp at hc⟩ (by simp) ⟨n1, n2⟩ ⟨e1, e2⟩ ⟨by simp, by simp⟩).mono ?_
  rintro e w7 ⟨A7, c7, rfl, hsl7, hb7⟩
  have HS7 := Lib.hid hsl7
  have HBD := Lib.hid (show Below w2.heap.size w2 w7 from (below_dn (Below.refl _ _) 1).trans hb7)
  have HB7 := Lib.hid (below_trans HB2.out HBD.out HB2.out.size)
  clear hb7 hsl7
  generalize f ⟨n, ep, 0, []⟩ = r7 at *
  obtain ⟨cl7, ep7, dn7, l7⟩ := r7
  simp only at HS7 HF ⊢
  refine hK.out _ _ (⟨cell_keep HBD.out hHeld.1, cell_keep HBD.out hHeld.2.1, cell_keep HBD.out hHeld.2.2.1, cell_keep HBD.out hHeld.2.2.2⟩) (fun hHeld => ?_)
  clear hK K
  try simp only [Act.put, List.setIfInBounds_toArray, List.set_cons_zero, List.set_cons_succ, List.getElem_toArray, List.getElem_cons_zero, List.getElem_cons_succ]
  refine wpAnyH_ready (rs := [6]) (by kernel_rfl) (by simp) ?_
  refine (AllReadyH.cons rfl (fun K hK => ?_) AllReadyH.nil)
  rw [if_pos (by rfl)]
  go_wp2_with fail
  refine hK.out _ _ (⟨cell_alloc _ hHeld.1, cell_alloc _ hHeld.2.1, cell_alloc _ hHeld.2.2.1, cell_alloc _ hHeld.2.2.2⟩) (fun hHeld => ?_)
  clear hK K
  try simp only [Act.put, List.setIfInBounds_toArray, List.set_cons_zero, List.set_cons_succ, List.getElem_toArray, List.getElem_cons_zero, List.getElem_cons_succ]
  refine wpAnyH_ready (rs := [10]) (by kernel_rfl) (by simp) ?_
  refine (AllReadyH.cons rfl (fun K hK => ?_) AllReadyH.nil)
  refine step_build_run rfl _ _ _ rfl _ (by simp [Act.eval]) _ _ (run_build3 rowsElem (.slice A i c) (.slice (some ⟨w7.heap.size, 0, none⟩) 1 1) (.slice A' n' c') rfl rfl rfl _) ?_
  refine hK.out _ _ (⟨cell_alloc _ hHeld.1, cell_alloc _ hHeld.2.1, cell_alloc _ hHeld.2.2.1, cell_alloc _ hHeld.2.2.2⟩) (fun hHeld => ?_)
  clear hK K
  try simp only [Act.put, List.setIfInBounds_toArray, List.set_cons_zero, List.set_cons_succ, List.getElem_toArray, List.getElem_cons_zero, List.getElem_cons_succ]
  refine wpAnyH_ready (rs := [11]) (by kernel_rfl) (by simp) ?_
  refine (AllReadyH.cons rfl (fun K hK => ?_) AllReadyH.nil)
  obtain ⟨w8, hw8⟩ : ∃ w8, w8 = w7.alloc (.cells #[.int .i64 cl7, .int .i64 ep7, .int .i64 dn7, .slice A7 l7.length c7] 63) := ⟨_, rfl⟩
  have b78 : Below w7.heap.size w7 w8 := by rw [hw8]; exact (Below.refl _ _).alloc (Nat.le_refl _) _
  have hs8 : w8.heap.size = w7.heap.size + 1 := by rw [hw8]; simp
  have hB8 : Below w.heap.size w w8 := below_trans HB7.out b78 HB7.out.size
  have sl2 : Sl w8 4 (.slice (some ⟨w7.heap.size, 0, none⟩) 1 1) 1 [Value.int .i64 cl7, Value.int .i64 ep7, Value.int .i64 dn7, Value.slice A7 l7.length c7] := by rw [hw8]; exact sl_one (w := w7) (t := 63) [Value.int .i64 cl7, Value.int .i64 ep7, Value.int .i64 dn7, Value.slice A7 l7.length c7]
  have hcats := cats3 (w := w8) (k := 4) (t := 22) (p1 := (.slice A i c, i, (css.take i).flatten)) (p2 := (.slice (some ⟨w7.heap.size, 0, none⟩) 1 1, 1, [Value.int .i64 cl7, Value.int .i64 ep7, Value.int .i64 dn7, Value.slice A7 l7.length c7])) (p3 := (.slice A' n' c', n', (css.drop i).flatten)) (HPI.out.1.below hB8) sl2 (HPI.out.2.below hB8) ((HFIT.out.take i).cells rowR_one) (fun u hu => by simp at hu; rcases hu with rfl | rfl | rfl | rfl <;> rfl) ((HFIT.out.drop i).cells rowR_one)
  have hcc := concat_rows _ _ _ hcats (by simp) (by simp [catN]; have := HLL.out; omega)
  have hlen : catN [(Value.slice A i c, i, (css.take i).flatten), (Value.slice (some ⟨w7.heap.size, 0, none⟩) 1 1, 1, [Value.int .i64 cl7, Value.int .i64 ep7, Value.int .i64 dn7, Value.slice A7 l7.length c7]), (Value.slice A' n' c', n', (css.drop i).flatten)] = (rs.take i ++ (⟨cl7, ep7, dn7, l7⟩ : TRow) :: rs.drop i).length := by
    have := HLL.out
    simp only [catN, List.map_cons, List.map_nil, List.sum_cons, List.sum_nil, List.length_append, List.length_take, List.length_drop, List.length_cons, List.length_nil]
    omega
  rw [hlen] at hcc
  obtain ⟨L, hL⟩ : ∃ L, L = (rs.take i ++ (⟨cl7, ep7, dn7, l7⟩ : TRow) :: rs.drop i).length := ⟨_, rfl⟩
  rw [← hL] at hcc
  have HL := Lib.hid hL.symm
  clear hL
  have HCC := Lib.hid hcc
  have HB8 := Lib.hid (And.intro b78 hB8)
  rw [hs8, hw8] at HCC
  clear hcats sl2 b78 hs8 hw8 hcc hlen hB8
  rw [if_pos (by rfl)]
  go_wp2_with fail
  refine HCC.out.mono ?_
  rintro e w10 ⟨v10, rfl, ho10, hb10⟩
  obtain ⟨A10, c10, rfl, -, -⟩ := (Sl.of_owns ho10).shape
  have HS10 := Lib.hid (Sl.of_owns ho10)
  have HB10 := Lib.hid hb10
  clear ho10 hb10
  refine hK.out _ _ (⟨cell_keep HB10.out hHeld.1, cell_keep HB10.out hHeld.2.1, cell_keep HB10.out hHeld.2.2.1, cell_keep HB10.out hHeld.2.2.2⟩) (fun hHeld => ?_)
  clear hK K
  try simp only [Act.put, List.setIfInBounds_toArray, List.set_cons_zero, List.set_cons_succ, List.getElem_toArray, List.getElem_cons_zero, List.getElem_cons_succ]
  refine wpAnyH_take (i := 12) (v := ?_) rfl (by kernel_rfl) (by kernel_rfl) (by kernel_rfl) (fun _ _ _ h => h) (Or.inl ⟨by rfl, ?_⟩) (by assumption) ?_
  rotate_left
  · intro w hSw
    try dsimp only at hSw
    go_simp
    try with_reducible rfl
  rotate_left
  try simp only [Act.put, List.setIfInBounds_toArray, List.set_cons_zero, List.set_cons_succ, List.getElem_toArray, List.getElem_cons_zero, List.getElem_cons_succ]
  refine wpAnyH_done (by kernel_rfl) ?_ _
  clear hHeld hpre hpost
  have hB79 : Below w7.heap.size w7 w10 := (((Below.refl _ _).alloc (Nat.le_refl _) _).alloc (by simp) _).trans (HB10.out.mono (by simp; omega))
  have hB10 : Below w.heap.size w w10 := below_trans HB7.out hB79 HB7.out.size
  have hfit10 : Fit (RowR w10) 4 (css.take i ++ ([[Value.int .i64 cl7, Value.int .i64 ep7, Value.int .i64 dn7, Value.slice A7 l7.length c7]] ++ css.drop i)) (rs.take i ++ (⟨cl7, ep7, dn7, l7⟩ : TRow) :: rs.drop i) :=
    ((HFIT.out.take i).mono fun _ _ h => h.below hB10).append ((Fit.one (R := RowR w10) (k := 4) (cs := [Value.int .i64 cl7, Value.int .i64 ep7, Value.int .i64 dn7, Value.slice A7 l7.length c7]) (a := ⟨cl7, ep7, dn7, l7⟩) rfl ⟨_, rfl, HS7.out.below hB79, HF.out.1, HF.out.2.1, HF.out.2.2.1, HF.out.2.2.2⟩).append ((HFIT.out.drop i).mono fun _ _ h => h.below hB10))
  have hres : RowsIn w10 (.slice A10 (rs.take i ++ (⟨cl7, ep7, dn7, l7⟩ : TRow) :: rs.drop i).length c10) (rs.take i ++ (⟨cl7, ep7, dn7, l7⟩ : TRow) :: rs.drop i) := by
    refine hfit10.slOf ?_
    rw [show (css.take i ++ ([[Value.int .i64 cl7, Value.int .i64 ep7, Value.int .i64 dn7, Value.slice A7 l7.length c7]] ++ css.drop i)).flatten = catL [(Value.slice A i c, i, (css.take i).flatten), (Value.slice (some ⟨w7.heap.size, 0, none⟩) 1 1, 1, [Value.int .i64 cl7, Value.int .i64 ep7, Value.int .i64 dn7, Value.slice A7 l7.length c7]), (Value.slice A' n' c', n', (css.drop i).flatten)] from by simp [catL]]
    rw [HL.out]
    exact HS10.out
  have HRES := Lib.hid (And.intro hres hB10)
  clear hfit10 hres hB10 hB79
  go_wp2_with fail
  go_ret
  exact ⟨A10, c10, by rw [HL.out]; rfl, HRES.out.1, HRES.out.2⟩

set_option maxRecDepth 100000 in
set_option maxHeartbeats 8000000 in
theorem changed_other_dec (rs : List TRow) (A : Option Addr) (c : Nat) (n ep : Int) (p8 p9 : Nat) (f : TRow → TRow) (w : World) (hr : RowsIn w (.slice A rs.length c) rs) (hn : rs.length ≤ 100000) (n1 : -9223372036854775808 ≤ n) (n2 : n ≤ 9223372036854775807) (e1 : -9223372036854775808 ≤ ep) (e2 : ep ≤ 9223372036854775807)
    (hclo : ∀ (W : World) (r : TRow) (A : Option Addr) (c : Nat), Below w.heap.size w W → SlOf DecR W 2 (.slice A r.l.length c) r.l → r.l.length ≤ 100000 → i64ok r.client → i64ok r.epoch → i64ok r.done → Calls Try.prog 33 #[.agg #[.int .i64 r.client, .int .i64 r.epoch, .int .i64 r.done, .slice A r.l.length c], .pointer (some ⟨p8, 0, none⟩), .pointer (some ⟨p9, 0, none⟩)] W (RowIs W (f r))) (i : Nat) (hp : placeN (rs.map (·.client)) n = (i, true)) (r : TRow) (hri : rs[i]? = some r) (hre : r.epoch ≠ ep) (hf : (f ⟨n, ep, 0, []⟩).l.length ≤ 8796093022207 ∧ i64ok (f ⟨n, ep, 0, []⟩).client ∧ i64ok (f ⟨n, ep, 0, []⟩).epoch ∧ i64ok (f ⟨n, ep, 0, []⟩).done) :
    Calls Try.prog 32 #[.slice A rs.length c, .int .i64 n, .int .i64 ep, .func (.func 33) #[] #[.pointer (some ⟨p8, 0, none⟩), .pointer (some ⟨p9, 0, none⟩)]] w (RowsRet w (rs.take i ++ f ⟨n, ep, 0, []⟩ :: rs.drop (i + 1))) := by
  have hil := placeN_le (rs.map (·.client)) n
  rw [hp, List.length_map] at hil
  simp only at hil
  have hcap : rs.length ≤ c := by
    obtain ⟨css, h, _⟩ := hr
    obtain ⟨_, _, he, hc, _⟩ := h.shape
    simp only [Value.slice.injEq] at he
    omega
  have hilt := (List.getElem?_eq_some_iff.1 hri).1
  have hrg := (List.getElem?_eq_some_iff.1 hri).2
  obtain ⟨W1, hW1⟩ : ∃ W1, W1 = w.alloc (.cells #[.int .i64 n, .int .i64 ep, .int .i64 0, .slice none 0 0] 63) := ⟨_, rfl⟩
  have hb1 : Below w.heap.size w W1 := by rw [hW1]; exact (Below.refl _ _).alloc (Nat.le_refl _) _
  have HT1 := Lib.hid (show TBox W1 w.heap.size 63 #[.int .i64 n, .int .i64 ep, .int .i64 0, .slice none 0 0] from by rw [hW1]; exact TBox.new _ _ _)
  have HRO := Lib.hid (table_rowOf rs A c n W1 (hr.below hb1) (by omega) n1 n2)
  rw [hp] at HRO
  have hpre := fun W : World => run_pre rowElem A rs.length c i (by omega) W
  have hpost := fun W : World => run_post rowElem A rs.length c (i + 1) (by omega) W
  obtain ⟨css, hfit, hslc⟩ := SlOf.parts hr
  have hpiece := hfit.post hslc (i + 1) (by omega)
  obtain ⟨A', hA'⟩ : ∃ A', A' = cutA A c (i + 1) 4 := ⟨_, rfl⟩
  obtain ⟨n', hn'⟩ : ∃ n', n' = rs.length - (i + 1) := ⟨_, rfl⟩
  obtain ⟨c', hc'⟩ : ∃ c', c' = c - (i + 1) := ⟨_, rfl⟩
  simp only [← hA', ← hn', ← hc'] at hpost
  rw [← hA', ← hn', ← hc'] at hpiece
  have HPI := Lib.hid (And.intro (hfit.pre hslc i hil) hpiece)
  have HFIT := Lib.hid hfit
  have HPP := Lib.hid (And.intro hpre hpost)
  have HLL := Lib.hid hn'
  have HR := Lib.hid hr
  have HCLO := Lib.hid hclo
  have HF := Lib.hid hf
  have HW1 := Lib.hid hW1
  have HB1 := Lib.hid hb1
  clear hpre hpost hA' hn' hc' hr hclo hf hW1 hb1 hp hpiece hfit hslc
  go_enter Try.func32, Try.ntmps32
  go_wp2_with fail
  rw [← HW1.out]
  refine HRO.out.mono ?_
  rintro e w2 ⟨rfl, hb2⟩
  have HT2 := Lib.hid (HT1.out.below hb2)
  have HB2 := Lib.hid (below_trans HB1.out hb2 HB1.out.size)
  clear hb2
  obtain ⟨b, off, A0, c0, rfl, hbk, u0, u1, u2, u3, hsl0, hll0, ho0, ho1, ho2⟩ := HR.out.at i hilt
  have q0 := cell_keep HB2.out u0
  have q1 := cell_keep HB2.out u1
  have q2 := cell_keep HB2.out u2
  have q3 := cell_keep HB2.out u3
  clear u0 u1 u2 u3
  rw [hrg] at q0 q1 q2 q3 hsl0 hll0 ho0 ho1 ho2
  obtain ⟨rc, re, rd, rl⟩ := r
  simp only at q0 q1 q2 q3 hsl0 hll0 ho0 ho1 ho2 hre
  have HSL0 := Lib.hid hsl0
  have HO := Lib.hid (And.intro ho0 (And.intro ho1 ho2))
  have hii : (0 : Int) ≤ (i : Int) := by omega
  have hij : (i : Int) < (rs.length : Int) := by omega
  clear hsl0 hrg hri ho0 ho1 ho2
  have hne : (re == ep) = false := by simpa using hre
  clear hre
  go_wp2_with fail
  have hpre := HPP.out.1
  have hpost := HPP.out.2
  try simp only [show ((i + 1 : Nat) : Int) = (i : Int) + 1 from rfl] at hpost
  have hi0 : (0 : Int) ≤ (i : Int) := by omega
  have hi1 : (i : Int) ≤ (rs.length : Int) := by omega
  have hi2 : (i : Int) ≤ (c : Int) := by omega
  refine wp_region_held_drew (S := fun V => V.cell? ⟨w.heap.size, 0, none⟩ = some (.int .i64 n) ∧ V.cell? ⟨w.heap.size, 1, none⟩ = some (.int .i64 ep) ∧ V.cell? ⟨w.heap.size, 2, none⟩ = some (.int .i64 0) ∧ V.cell? ⟨w.heap.size, 3, none⟩ = some (.slice none 0 0)) (by kernel_rfl) (⟨HT2.out.cell 0, HT2.out.cell 1, HT2.out.cell 2, HT2.out.cell 3⟩) (fun hHeld => ?_)
  refine wpAnyH_take (i := 0) (v := ?_) rfl (by kernel_rfl) (by kernel_rfl) (by kernel_rfl) (fun _ _ _ h => h) (Or.inl ⟨by rfl, ?_⟩) (by assumption) ?_
  rotate_left
  · intro w hSw
    try dsimp only at hSw
    go_simp
    try with_reducible rfl
  rotate_left
  try simp only [Act.put, List.setIfInBounds_toArray, List.set_cons_zero, List.set_cons_succ, List.getElem_toArray, List.getElem_cons_zero, List.getElem_cons_succ]
  refine wpAnyH_take (i := 1) (v := ?_) rfl (by kernel_rfl) (by kernel_rfl) (by kernel_rfl) (fun _ _ _ h => h) (Or.inl ⟨by rfl, ?_⟩) (by assumption) ?_
  rotate_left
  · intro w hSw
    try dsimp only at hSw
    go_simp
    try with_reducible rfl
  rotate_left
  try simp only [Act.put, List.setIfInBounds_toArray, List.set_cons_zero, List.set_cons_succ, List.getElem_toArray, List.getElem_cons_zero, List.getElem_cons_succ]
  refine wpAnyH_take (i := 2) (v := ?_) rfl (by kernel_rfl) (by kernel_rfl) (by kernel_rfl) (fun _ _ _ h => h) (Or.inl ⟨by rfl, ?_⟩) (by assumption) ?_
  rotate_left
  · intro w hSw
    try dsimp only at hSw
    go_simp
    try with_reducible rfl
  rotate_left
  try simp only [Act.put, List.setIfInBounds_toArray, List.set_cons_zero, List.set_cons_succ, List.getElem_toArray, List.getElem_cons_zero, List.getElem_cons_succ]
  refine wpAnyH_take (i := 3) (v := ?_) rfl (by kernel_rfl) (by kernel_rfl) (by kernel_rfl) (fun _ _ _ h => h) (Or.inl ⟨by rfl, ?_⟩) (by assumption) ?_
  rotate_left
  · intro w hSw
    try dsimp only at hSw
    go_simp
    try with_reducible rfl
  rotate_left
  try simp only [Act.put, List.setIfInBounds_toArray, List.set_cons_zero, List.set_cons_succ, List.getElem_toArray, List.getElem_cons_zero, List.getElem_cons_succ]
  refine wpAnyH_take (i := 4) (v := ?_) rfl (by kernel_rfl) (by kernel_rfl) (by kernel_rfl) (fun _ _ _ h => h) (Or.inl ⟨by rfl, ?_⟩) (by assumption) ?_
  rotate_left
  · intro w hSw
    try dsimp only at hSw
    go_simp
    try with_reducible rfl
  rotate_left
  try simp only [Act.put, List.setIfInBounds_toArray, List.set_cons_zero, List.set_cons_succ, List.getElem_toArray, List.getElem_cons_zero, List.getElem_cons_succ]
  refine wpAnyH_take (i := 7) (v := ?_) rfl (by kernel_rfl) (by kernel_rfl) (by kernel_rfl) (fun _ _ _ h => h) (Or.inl ⟨by rfl, ?_⟩) (by assumption) ?_
  rotate_left
  · intro w hSw
    try dsimp only at hSw
    go_simp
    try with_reducible rfl
  rotate_left
  try simp only [Act.put, List.setIfInBounds_toArray, List.set_cons_zero, List.set_cons_succ, List.getElem_toArray, List.getElem_cons_zero, List.getElem_cons_succ]
  refine wpAnyH_take (i := 8) (v := ?_) rfl (by kernel_rfl) (by kernel_rfl) (by kernel_rfl) (fun _ _ _ h => h) (Or.inl ⟨by rfl, ?_⟩) (by assumption) ?_
  rotate_left
  · intro w hSw
    try dsimp only at hSw
    go_simp
    try with_reducible rfl
  rotate_left
  try simp only [Act.put, List.setIfInBounds_toArray, List.set_cons_zero, List.set_cons_succ, List.getElem_toArray, List.getElem_cons_zero, List.getElem_cons_succ]
  refine wpAnyH_take (i := 9) (v := ?_) rfl (by kernel_rfl) (by kernel_rfl) (by kernel_rfl) (fun _ _ _ h => h) (Or.inl ⟨by rfl, ?_⟩) (by assumption) ?_
  rotate_left
  · intro w hSw
    try dsimp only at hSw
    go_simp
    try with_reducible rfl
  rotate_left
  try simp only [Act.put, List.setIfInBounds_toArray, List.set_cons_zero, List.set_cons_succ, List.getElem_toArray, List.getElem_cons_zero, List.getElem_cons_succ]
  refine wpAnyH_ready (rs := [5]) (by kernel_rfl) (by simp) ?_
  refine (AllReadyH.cons rfl (fun K hK => ?_) AllReadyH.nil)
  rw [if_pos (by rfl)]
  go_wp2_with fail
  refine (HCLO.out _ ⟨n, ep, 0, []⟩ none 0 (below_dn HB2.out 1) ⟨[], Sl.nil _ _, rfl, fun i cs a hc => by simp at hc⟩ (by simp) ⟨n1, n2⟩ ⟨e1, e2⟩ ⟨by simp, by simp⟩).mono ?_
  rintro e w7 ⟨A7, c7, rfl, hsl7, hb7⟩
  have HS7 := Lib.hid hsl7
  have HBD := Lib.hid (show Below w2.heap.size w2 w7 from (below_dn (Below.refl _ _) 1).trans hb7)
  have HB7 := Lib.hid (below_trans HB2.out HBD.out HB2.out.size)
  clear hb7 hsl7
  generalize f ⟨n, ep, 0, []⟩ = r7 at *
  obtain ⟨cl7, ep7, dn7, l7⟩ := r7
  simp only at HS7 HF ⊢
  refine hK.out _ _ (⟨cell_keep HBD.out hHeld.1, cell_keep HBD.out hHeld.2.1, cell_keep HBD.out hHeld.2.2.1, cell_keep HBD.out hHeld.2.2.2⟩) (fun hHeld => ?_)
  clear hK K
  try simp only [Act.put, List.setIfInBounds_toArray, List.set_cons_zero, List.set_cons_succ, List.getElem_toArray, List.getElem_cons_zero, List.getElem_cons_succ]
  refine wpAnyH_ready (rs := [6]) (by kernel_rfl) (by simp) ?_
  refine (AllReadyH.cons rfl (fun K hK => ?_) AllReadyH.nil)
  rw [if_pos (by rfl)]
  go_wp2_with fail
  refine hK.out _ _ (⟨cell_alloc _ hHeld.1, cell_alloc _ hHeld.2.1, cell_alloc _ hHeld.2.2.1, cell_alloc _ hHeld.2.2.2⟩) (fun hHeld => ?_)
  clear hK K
  try simp only [Act.put, List.setIfInBounds_toArray, List.set_cons_zero, List.set_cons_succ, List.getElem_toArray, List.getElem_cons_zero, List.getElem_cons_succ]
  refine wpAnyH_ready (rs := [10]) (by kernel_rfl) (by simp) ?_
  refine (AllReadyH.cons rfl (fun K hK => ?_) AllReadyH.nil)
  refine step_build_run rfl _ _ _ rfl _ (by simp [Act.eval]) _ _ (run_build3 rowsElem (.slice (some ⟨b, off, none⟩) i c) (.slice (some ⟨w7.heap.size, 0, none⟩) 1 1) (.slice A' n' c') rfl rfl rfl _) ?_
  refine hK.out _ _ (⟨cell_alloc _ hHeld.1, cell_alloc _ hHeld.2.1, cell_alloc _ hHeld.2.2.1, cell_alloc _ hHeld.2.2.2⟩) (fun hHeld => ?_)
  clear hK K
  try simp only [Act.put, List.setIfInBounds_toArray, List.set_cons_zero, List.set_cons_succ, List.getElem_toArray, List.getElem_cons_zero, List.getElem_cons_succ]
  refine wpAnyH_ready (rs := [11]) (by kernel_rfl) (by simp) ?_
  refine (AllReadyH.cons rfl (fun K hK => ?_) AllReadyH.nil)
  obtain ⟨w8, hw8⟩ : ∃ w8, w8 = w7.alloc (.cells #[.int .i64 cl7, .int .i64 ep7, .int .i64 dn7, .slice A7 l7.length c7] 63) := ⟨_, rfl⟩
  have b78 : Below w7.heap.size w7 w8 := by rw [hw8]; exact (Below.refl _ _).alloc (Nat.le_refl _) _
  have hs8 : w8.heap.size = w7.heap.size + 1 := by rw [hw8]; simp
  have hB8 : Below w.heap.size w w8 := below_trans HB7.out b78 HB7.out.size
  have sl2 : Sl w8 4 (.slice (some ⟨w7.heap.size, 0, none⟩) 1 1) 1 [Value.int .i64 cl7, Value.int .i64 ep7, Value.int .i64 dn7, Value.slice A7 l7.length c7] := by rw [hw8]; exact sl_one (w := w7) (t := 63) [Value.int .i64 cl7, Value.int .i64 ep7, Value.int .i64 dn7, Value.slice A7 l7.length c7]
  have hcats := cats3 (w := w8) (k := 4) (t := 22) (p1 := (.slice (some ⟨b, off, none⟩) i c, i, (css.take i).flatten)) (p2 := (.slice (some ⟨w7.heap.size, 0, none⟩) 1 1, 1, [Value.int .i64 cl7, Value.int .i64 ep7, Value.int .i64 dn7, Value.slice A7 l7.length c7])) (p3 := (.slice A' n' c', n', (css.drop (i + 1)).flatten)) (HPI.out.1.below hB8) sl2 (HPI.out.2.below hB8) ((HFIT.out.take i).cells rowR_one) (fun u hu => by simp at hu; rcases hu with rfl | rfl | rfl | rfl <;> rfl) ((HFIT.out.drop (i + 1)).cells rowR_one)
  have hcc := concat_rows _ _ _ hcats (by simp) (by simp [catN]; have := HLL.out; omega)
  have hlen : catN [(Value.slice (some ⟨b, off, none⟩) i c, i, (css.take i).flatten), (Value.slice (some ⟨w7.heap.size, 0, none⟩) 1 1, 1, [Value.int .i64 cl7, Value.int .i64 ep7, Value.int .i64 dn7, Value.slice A7 l7.length c7]), (Value.slice A' n' c', n', (css.drop (i + 1)).flatten)] = (rs.take i ++ (⟨cl7, ep7, dn7, l7⟩ : TRow) :: rs.drop (i + 1)).length := by
    have := HLL.out
    simp only [catN, List.map_cons, List.map_nil, List.sum_cons, List.sum_nil, List.length_append, List.length_take, List.length_drop, List.length_cons, List.length_nil]
    omega
  rw [hlen] at hcc
  obtain ⟨L, hL⟩ : ∃ L, L = (rs.take i ++ (⟨cl7, ep7, dn7, l7⟩ : TRow) :: rs.drop (i + 1)).length := ⟨_, rfl⟩
  rw [← hL] at hcc
  have HL := Lib.hid hL.symm
  clear hL
  have HCC := Lib.hid hcc
  have HB8 := Lib.hid (And.intro b78 hB8)
  rw [hs8, hw8] at HCC
  clear hcats sl2 b78 hs8 hw8 hcc hlen hB8
  rw [if_pos (by rfl)]
  go_wp2_with fail
  refine HCC.out.mono ?_
  rintro e w10 ⟨v10, rfl, ho10, hb10⟩
  obtain ⟨A10, c10, rfl, -, -⟩ := (Sl.of_owns ho10).shape
  have HS10 := Lib.hid (Sl.of_owns ho10)
  have HB10 := Lib.hid hb10
  clear ho10 hb10
  refine hK.out _ _ (⟨cell_keep HB10.out hHeld.1, cell_keep HB10.out hHeld.2.1, cell_keep HB10.out hHeld.2.2.1, cell_keep HB10.out hHeld.2.2.2⟩) (fun hHeld => ?_)
  clear hK K
  try simp only [Act.put, List.setIfInBounds_toArray, List.set_cons_zero, List.set_cons_succ, List.getElem_toArray, List.getElem_cons_zero, List.getElem_cons_succ]
  refine wpAnyH_take (i := 12) (v := ?_) rfl (by kernel_rfl) (by kernel_rfl) (by kernel_rfl) (fun _ _ _ h => h) (Or.inl ⟨by rfl, ?_⟩) (by assumption) ?_
  rotate_left
  · intro w hSw
    try dsimp only at hSw
    go_simp
    try with_reducible rfl
  rotate_left
  try simp only [Act.put, List.setIfInBounds_toArray, List.set_cons_zero, List.set_cons_succ, List.getElem_toArray, List.getElem_cons_zero, List.getElem_cons_succ]
  refine wpAnyH_done (by kernel_rfl) ?_ _
  clear hHeld hpre hpost
  have hB79 : Below w7.heap.size w7 w10 := (((Below.refl _ _).alloc (Nat.le_refl _) _).alloc (by simp) _).trans (HB10.out.mono (by simp; omega))
  have hB10 : Below w.heap.size w w10 := below_trans HB7.out hB79 HB7.out.size
  have hfit10 : Fit (RowR w10) 4 (css.take i ++ ([[Value.int .i64 cl7, Value.int .i64 ep7, Value.int .i64 dn7, Value.slice A7 l7.length c7]] ++ css.drop (i + 1))) (rs.take i ++ (⟨cl7, ep7, dn7, l7⟩ : TRow) :: rs.drop (i + 1)) :=
    ((HFIT.out.take i).mono fun _ _ h => h.below hB10).append ((Fit.one (R := RowR w10) (k := 4) (cs := [Value.int .i64 cl7, Value.int .i64 ep7, Value.int .i64 dn7, Value.slice A7 l7.length c7]) (a := ⟨cl7, ep7, dn7, l7⟩) rfl ⟨_, rfl, HS7.out.below hB79, HF.out.1, HF.out.2.1, HF.out.2.2.1, HF.out.2.2.2⟩).append ((HFIT.out.drop (i + 1)).mono fun _ _ h => h.below hB10))
  have hres : RowsIn w10 (.slice A10 (rs.take i ++ (⟨cl7, ep7, dn7, l7⟩ : TRow) :: rs.drop (i + 1)).length c10) (rs.take i ++ (⟨cl7, ep7, dn7, l7⟩ : TRow) :: rs.drop (i + 1)) := by
    refine hfit10.slOf ?_
    rw [show (css.take i ++ ([[Value.int .i64 cl7, Value.int .i64 ep7, Value.int .i64 dn7, Value.slice A7 l7.length c7]] ++ css.drop (i + 1))).flatten = catL [(Value.slice (some ⟨b, off, none⟩) i c, i, (css.take i).flatten), (Value.slice (some ⟨w7.heap.size, 0, none⟩) 1 1, 1, [Value.int .i64 cl7, Value.int .i64 ep7, Value.int .i64 dn7, Value.slice A7 l7.length c7]), (Value.slice A' n' c', n', (css.drop (i + 1)).flatten)] from by simp [catL]]
    rw [HL.out]
    exact HS10.out
  have HRES := Lib.hid (And.intro hres hB10)
  clear hfit10 hres hB10 hB79
  go_wp2_with fail
  go_ret
  exact ⟨A10, c10, by rw [HL.out]; rfl, HRES.out.1, HRES.out.2⟩

set_option maxRecDepth 100000 in
set_option maxHeartbeats 8000000 in
theorem changed_same_dec (rs : List TRow) (A : Option Addr) (c : Nat) (n ep : Int) (p8 p9 : Nat) (f : TRow → TRow) (w : World) (hr : RowsIn w (.slice A rs.length c) rs) (hn : rs.length ≤ 100000) (n1 : -9223372036854775808 ≤ n) (n2 : n ≤ 9223372036854775807) (e1 : -9223372036854775808 ≤ ep) (e2 : ep ≤ 9223372036854775807)
    (hclo : ∀ (W : World) (r : TRow) (A : Option Addr) (c : Nat), Below w.heap.size w W → SlOf DecR W 2 (.slice A r.l.length c) r.l → r.l.length ≤ 100000 → i64ok r.client → i64ok r.epoch → i64ok r.done → Calls Try.prog 33 #[.agg #[.int .i64 r.client, .int .i64 r.epoch, .int .i64 r.done, .slice A r.l.length c], .pointer (some ⟨p8, 0, none⟩), .pointer (some ⟨p9, 0, none⟩)] W (RowIs W (f r))) (i : Nat) (hp : placeN (rs.map (·.client)) n = (i, true)) (r : TRow) (hri : rs[i]? = some r) (hre : r.epoch = ep) (hrl : r.l.length ≤ 100000) (hf : (f r).l.length ≤ 8796093022207 ∧ i64ok (f r).client ∧ i64ok (f r).epoch ∧ i64ok (f r).done) :
    Calls Try.prog 32 #[.slice A rs.length c, .int .i64 n, .int .i64 ep, .func (.func 33) #[] #[.pointer (some ⟨p8, 0, none⟩), .pointer (some ⟨p9, 0, none⟩)]] w (RowsRet w (rs.take i ++ f r :: rs.drop (i + 1))) := by
  have hil := placeN_le (rs.map (·.client)) n
  rw [hp, List.length_map] at hil
  simp only at hil
  have hcap : rs.length ≤ c := by
    obtain ⟨css, h, _⟩ := hr
    obtain ⟨_, _, he, hc, _⟩ := h.shape
    simp only [Value.slice.injEq] at he
    omega
  have hilt := (List.getElem?_eq_some_iff.1 hri).1
  have hrg := (List.getElem?_eq_some_iff.1 hri).2
  obtain ⟨W1, hW1⟩ : ∃ W1, W1 = w.alloc (.cells #[.int .i64 n, .int .i64 ep, .int .i64 0, .slice none 0 0] 63) := ⟨_, rfl⟩
  have hb1 : Below w.heap.size w W1 := by rw [hW1]; exact (Below.refl _ _).alloc (Nat.le_refl _) _
  have HT1 := Lib.hid (show TBox W1 w.heap.size 63 #[.int .i64 n, .int .i64 ep, .int .i64 0, .slice none 0 0] from by rw [hW1]; exact TBox.new _ _ _)
  have HRO := Lib.hid (table_rowOf rs A c n W1 (hr.below hb1) (by omega) n1 n2)
  rw [hp] at HRO
  have hpre := fun W : World => run_pre rowElem A rs.length c i (by omega) W
  have hpost := fun W : World => run_post rowElem A rs.length c (i + 1) (by omega) W
  obtain ⟨css, hfit, hslc⟩ := SlOf.parts hr
  have hpiece := hfit.post hslc (i + 1) (by omega)
  obtain ⟨A', hA'⟩ : ∃ A', A' = cutA A c (i + 1) 4 := ⟨_, rfl⟩
  obtain ⟨n', hn'⟩ : ∃ n', n' = rs.length - (i + 1) := ⟨_, rfl⟩
  obtain ⟨c', hc'⟩ : ∃ c', c' = c - (i + 1) := ⟨_, rfl⟩
  simp only [← hA', ← hn', ← hc'] at hpost
  rw [← hA', ← hn', ← hc'] at hpiece
  have HPI := Lib.hid (And.intro (hfit.pre hslc i hil) hpiece)
  have HFIT := Lib.hid hfit
  have HPP := Lib.hid (And.intro hpre hpost)
  have HLL := Lib.hid hn'
  have HR := Lib.hid hr
  have HCLO := Lib.hid hclo
  have HF := Lib.hid hf
  have HW1 := Lib.hid hW1
  have HB1 := Lib.hid hb1
  clear hpre hpost hA' hn' hc' hr hclo hf hW1 hb1 hp hpiece hfit hslc
  go_enter Try.func32, Try.ntmps32
  go_wp2_with fail
  rw [← HW1.out]
  refine HRO.out.mono ?_
  rintro e w2 ⟨rfl, hb2⟩
  have HT2 := Lib.hid (HT1.out.below hb2)
  have HB2 := Lib.hid (below_trans HB1.out hb2 HB1.out.size)
  clear hb2
  obtain ⟨b, off, A0, c0, rfl, hbk, u0, u1, u2, u3, hsl0, hll0, ho0, ho1, ho2⟩ := HR.out.at i hilt
  have q0 := cell_keep HB2.out u0
  have q1 := cell_keep HB2.out u1
  have q2 := cell_keep HB2.out u2
  have q3 := cell_keep HB2.out u3
  clear u0 u1 u2 u3
  rw [hrg] at q0 q1 q2 q3 hsl0 hll0 ho0 ho1 ho2
  obtain ⟨rc, re, rd, rl⟩ := r
  simp only at q0 q1 q2 q3 hsl0 hll0 ho0 ho1 ho2 hre
  have HSL0 := Lib.hid hsl0
  have HO := Lib.hid (And.intro ho0 (And.intro ho1 ho2))
  have hii : (0 : Int) ≤ (i : Int) := by omega
  have hij : (i : Int) < (rs.length : Int) := by omega
  clear hsl0 hrg hri ho0 ho1 ho2
  subst hre
  have p0 : w2.cell? ⟨w.heap.size, 0, none⟩ = some (.int .i64 n) := HT2.out.cell 0
  have p1 : w2.cell? ⟨w.heap.size, 1, none⟩ = some (.int .i64 re) := HT2.out.cell 1
  have p2 : w2.cell? ⟨w.heap.size, 2, none⟩ = some (.int .i64 0) := HT2.out.cell 2
  have p3 : w2.cell? ⟨w.heap.size, 3, none⟩ = some (.slice none 0 0) := HT2.out.cell 3
  have f0 := HT2.out.free 0
  have f1 := HT2.out.free 1
  have f2 := HT2.out.free 2
  have f3 := HT2.out.free 3
  go_wp2_with fail
  obtain ⟨W3, hW3⟩ : ∃ W3, W3 = (((w2.setCell ⟨w.heap.size, 0, none⟩ (.int .i64 rc)).setCell ⟨w.heap.size, 1, none⟩ (.int .i64 re)).setCell ⟨w.heap.size, 2, none⟩ (.int .i64 rd)).setCell ⟨w.heap.size, 3, none⟩ (.slice A0 rl.length c0) := ⟨_, rfl⟩
  rw [← hW3]
  have HT3 := Lib.hid (show TBox W3 w.heap.size 63 #[.int .i64 rc, .int .i64 re, .int .i64 rd, .slice A0 rl.length c0] from by rw [hW3]; exact (((HT2.out.set 0 _).set 1 _).set 2 _).set 3 _)
  have HB3 := Lib.hid (show Below w.heap.size w W3 from by rw [hW3]; exact (((HB2.out.setCell (p := ⟨w.heap.size, 0, none⟩) (Nat.le_refl _) _).setCell (p := ⟨w.heap.size, 1, none⟩) (Nat.le_refl _) _).setCell (p := ⟨w.heap.size, 2, none⟩) (Nat.le_refl _) _).setCell (p := ⟨w.heap.size, 3, none⟩) (Nat.le_refl _) _)
  clear hW3 p0 p1 p2 p3 f0 f1 f2 f3 q0 q1 q2 q3
  replace HT2 := HT3
  replace HB2 := HB3
  have hpre := HPP.out.1
  have hpost := HPP.out.2
  try simp only [show ((i + 1 : Nat) : Int) = (i : Int) + 1 from rfl] at hpost
  have hi0 : (0 : Int) ≤ (i : Int) := by omega
  have hi1 : (i : Int) ≤ (rs.length : Int) := by omega
  have hi2 : (i : Int) ≤ (c : Int) := by omega
  refine wp_region_held_drew (S := fun V => V.cell? ⟨w.heap.size, 0, none⟩ = some (.int .i64 rc) ∧ V.cell? ⟨w.heap.size, 1, none⟩ = some (.int .i64 re) ∧ V.cell? ⟨w.heap.size, 2, none⟩ = some (.int .i64 rd) ∧ V.cell? ⟨w.heap.size, 3, none⟩ = some (.slice A0 rl.length c0)) (by kernel_rfl) (⟨HT2.out.cell 0, HT2.out.cell 1, HT2.out.cell 2, HT2.out.cell 3⟩) (fun hHeld => ?_)
  refine wpAnyH_take (i := 0) (v := ?_) rfl (by kernel_rfl) (by kernel_rfl) (by kernel_rfl) (fun _ _ _ h => h) (Or.inl ⟨by rfl, ?_⟩) (by assumption) ?_
  rotate_left
  · intro w hSw
    try dsimp only at hSw
    go_simp
    try with_reducible rfl
  rotate_left
  try simp only [Act.put, List.setIfInBounds_toArray, List.set_cons_zero, List.set_cons_succ, List.getElem_toArray, List.getElem_cons_zero, List.getElem_cons_succ]
  refine wpAnyH_take (i := 1) (v := ?_) rfl (by kernel_rfl) (by kernel_rfl) (by kernel_rfl) (fun _ _ _ h => h) (Or.inl ⟨by rfl, ?_⟩) (by assumption) ?_
  rotate_left
  · intro w hSw
    try dsimp only at hSw
    go_simp
    try with_reducible rfl
  rotate_left
  try simp only [Act.put, List.setIfInBounds_toArray, List.set_cons_zero, List.set_cons_succ, List.getElem_toArray, List.getElem_cons_zero, List.getElem_cons_succ]
  refine wpAnyH_take (i := 2) (v := ?_) rfl (by kernel_rfl) (by kernel_rfl) (by kernel_rfl) (fun _ _ _ h => h) (Or.inl ⟨by rfl, ?_⟩) (by assumption) ?_
  rotate_left
  · intro w hSw
    try dsimp only at hSw
    go_simp
    try with_reducible rfl
  rotate_left
  try simp only [Act.put, List.setIfInBounds_toArray, List.set_cons_zero, List.set_cons_succ, List.getElem_toArray, List.getElem_cons_zero, List.getElem_cons_succ]
  refine wpAnyH_take (i := 3) (v := ?_) rfl (by kernel_rfl) (by kernel_rfl) (by kernel_rfl) (fun _ _ _ h => h) (Or.inl ⟨by rfl, ?_⟩) (by assumption) ?_
  rotate_left
  · intro w hSw
    try dsimp only at hSw
    go_simp
    try with_reducible rfl
  rotate_left
  try simp only [Act.put, List.setIfInBounds_toArray, List.set_cons_zero, List.set_cons_succ, List.getElem_toArray, List.getElem_cons_zero, List.getElem_cons_succ]
  refine wpAnyH_take (i := 4) (v := ?_) rfl (by kernel_rfl) (by kernel_rfl) (by kernel_rfl) (fun _ _ _ h => h) (Or.inl ⟨by rfl, ?_⟩) (by assumption) ?_
  rotate_left
  · intro w hSw
    try dsimp only at hSw
    go_simp
    try with_reducible rfl
  rotate_left
  try simp only [Act.put, List.setIfInBounds_toArray, List.set_cons_zero, List.set_cons_succ, List.getElem_toArray, List.getElem_cons_zero, List.getElem_cons_succ]
  refine wpAnyH_take (i := 7) (v := ?_) rfl (by kernel_rfl) (by kernel_rfl) (by kernel_rfl) (fun _ _ _ h => h) (Or.inl ⟨by rfl, ?_⟩) (by assumption) ?_
  rotate_left
  · intro w hSw
    try dsimp only at hSw
    go_simp
    try with_reducible rfl
  rotate_left
  try simp only [Act.put, List.setIfInBounds_toArray, List.set_cons_zero, List.set_cons_succ, List.getElem_toArray, List.getElem_cons_zero, List.getElem_cons_succ]
  refine wpAnyH_take (i := 8) (v := ?_) rfl (by kernel_rfl) (by kernel_rfl) (by kernel_rfl) (fun _ _ _ h => h) (Or.inl ⟨by rfl, ?_⟩) (by assumption) ?_
  rotate_left
  · intro w hSw
    try dsimp only at hSw
    go_simp
    try with_reducible rfl
  rotate_left
  try simp only [Act.put, List.setIfInBounds_toArray, List.set_cons_zero, List.set_cons_succ, List.getElem_toArray, List.getElem_cons_zero, List.getElem_cons_succ]
  refine wpAnyH_take (i := 9) (v := ?_) rfl (by kernel_rfl) (by kernel_rfl) (by kernel_rfl) (fun _ _ _ h => h) (Or.inl ⟨by rfl, ?_⟩) (by assumption) ?_
  rotate_left
  · intro w hSw
    try dsimp only at hSw
    go_simp
    try with_reducible rfl
  rotate_left
  try simp only [Act.put, List.setIfInBounds_toArray, List.set_cons_zero, List.set_cons_succ, List.getElem_toArray, List.getElem_cons_zero, List.getElem_cons_succ]
  refine wpAnyH_ready (rs := [5]) (by kernel_rfl) (by simp) ?_
  refine (AllReadyH.cons rfl (fun K hK => ?_) AllReadyH.nil)
  rw [if_pos (by rfl)]
  go_wp2_with fail
  refine (HCLO.out _ ⟨rc, re, rd, rl⟩ A0 c0 (below_dn HB2.out 1) (HSL0.out.below (below_dn HB2.out 1)) hrl HO.out.1 HO.out.2.1 HO.out.2.2).mono ?_
  rintro e w7 ⟨A7, c7, rfl, hsl7, hb7⟩
  have HS7 := Lib.hid hsl7
  have HBD := Lib.hid (show Below W3.heap.size W3 w7 from (below_dn (Below.refl _ _) 1).trans hb7)
  have HB7 := Lib.hid (below_trans HB2.out HBD.out HB2.out.size)
  clear hb7 hsl7
  generalize f ⟨rc, re, rd, rl⟩ = r7 at *
  obtain ⟨cl7, ep7, dn7, l7⟩ := r7
  simp only at HS7 HF ⊢
  refine hK.out _ _ (⟨cell_keep HBD.out hHeld.1, cell_keep HBD.out hHeld.2.1, cell_keep HBD.out hHeld.2.2.1, cell_keep HBD.out hHeld.2.2.2⟩) (fun hHeld => ?_)
  clear hK K
  try simp only [Act.put, List.setIfInBounds_toArray, List.set_cons_zero, List.set_cons_succ, List.getElem_toArray, List.getElem_cons_zero, List.getElem_cons_succ]
  refine wpAnyH_ready (rs := [6]) (by kernel_rfl) (by simp) ?_
  refine (AllReadyH.cons rfl (fun K hK => ?_) AllReadyH.nil)
  rw [if_pos (by rfl)]
  go_wp2_with fail
  refine hK.out _ _ (⟨cell_alloc _ hHeld.1, cell_alloc _ hHeld.2.1, cell_alloc _ hHeld.2.2.1, cell_alloc _ hHeld.2.2.2⟩) (fun hHeld => ?_)
  clear hK K
  try simp only [Act.put, List.setIfInBounds_toArray, List.set_cons_zero, List.set_cons_succ, List.getElem_toArray, List.getElem_cons_zero, List.getElem_cons_succ]
  refine wpAnyH_ready (rs := [10]) (by kernel_rfl) (by simp) ?_
  refine (AllReadyH.cons rfl (fun K hK => ?_) AllReadyH.nil)
  refine step_build_run rfl _ _ _ rfl _ (by simp [Act.eval]) _ _ (run_build3 rowsElem (.slice (some ⟨b, off, none⟩) i c) (.slice (some ⟨w7.heap.size, 0, none⟩) 1 1) (.slice A' n' c') rfl rfl rfl _) ?_
  refine hK.out _ _ (⟨cell_alloc _ hHeld.1, cell_alloc _ hHeld.2.1, cell_alloc _ hHeld.2.2.1, cell_alloc _ hHeld.2.2.2⟩) (fun hHeld => ?_)
  clear hK K
  try simp only [Act.put, List.setIfInBounds_toArray, List.set_cons_zero, List.set_cons_succ, List.getElem_toArray, List.getElem_cons_zero, List.getElem_cons_succ]
  refine wpAnyH_ready (rs := [11]) (by kernel_rfl) (by simp) ?_
  refine (AllReadyH.cons rfl (fun K hK => ?_) AllReadyH.nil)
  obtain ⟨w8, hw8⟩ : ∃ w8, w8 = w7.alloc (.cells #[.int .i64 cl7, .int .i64 ep7, .int .i64 dn7, .slice A7 l7.length c7] 63) := ⟨_, rfl⟩
  have b78 : Below w7.heap.size w7 w8 := by rw [hw8]; exact (Below.refl _ _).alloc (Nat.le_refl _) _
  have hs8 : w8.heap.size = w7.heap.size + 1 := by rw [hw8]; simp
  have hB8 : Below w.heap.size w w8 := below_trans HB7.out b78 HB7.out.size
  have sl2 : Sl w8 4 (.slice (some ⟨w7.heap.size, 0, none⟩) 1 1) 1 [Value.int .i64 cl7, Value.int .i64 ep7, Value.int .i64 dn7, Value.slice A7 l7.length c7] := by rw [hw8]; exact sl_one (w := w7) (t := 63) [Value.int .i64 cl7, Value.int .i64 ep7, Value.int .i64 dn7, Value.slice A7 l7.length c7]
  have hcats := cats3 (w := w8) (k := 4) (t := 22) (p1 := (.slice (some ⟨b, off, none⟩) i c, i, (css.take i).flatten)) (p2 := (.slice (some ⟨w7.heap.size, 0, none⟩) 1 1, 1, [Value.int .i64 cl7, Value.int .i64 ep7, Value.int .i64 dn7, Value.slice A7 l7.length c7])) (p3 := (.slice A' n' c', n', (css.drop (i + 1)).flatten)) (HPI.out.1.below hB8) sl2 (HPI.out.2.below hB8) ((HFIT.out.take i).cells rowR_one) (fun u hu => by simp at hu; rcases hu with rfl | rfl | rfl | rfl <;> rfl) ((HFIT.out.drop (i + 1)).cells rowR_one)
  have hcc := concat_rows _ _ _ hcats (by simp) (by simp [catN]; have := HLL.out; omega)
  have hlen : catN [(Value.slice (some ⟨b, off, none⟩) i c, i, (css.take i).flatten), (Value.slice (some ⟨w7.heap.size, 0, none⟩) 1 1, 1, [Value.int .i64 cl7, Value.int .i64 ep7, Value.int .i64 dn7, Value.slice A7 l7.length c7]), (Value.slice A' n' c', n', (css.drop (i + 1)).flatten)] = (rs.take i ++ (⟨cl7, ep7, dn7, l7⟩ : TRow) :: rs.drop (i + 1)).length := by
    have := HLL.out
    simp only [catN, List.map_cons, List.map_nil, List.sum_cons, List.sum_nil, List.length_append, List.length_take, List.length_drop, List.length_cons, List.length_nil]
    omega
  rw [hlen] at hcc
  obtain ⟨L, hL⟩ : ∃ L, L = (rs.take i ++ (⟨cl7, ep7, dn7, l7⟩ : TRow) :: rs.drop (i + 1)).length := ⟨_, rfl⟩
  rw [← hL] at hcc
  have HL := Lib.hid hL.symm
  clear hL
  have HCC := Lib.hid hcc
  have HB8 := Lib.hid (And.intro b78 hB8)
  rw [hs8, hw8] at HCC
  clear hcats sl2 b78 hs8 hw8 hcc hlen hB8
  rw [if_pos (by rfl)]
  go_wp2_with fail
  refine HCC.out.mono ?_
  rintro e w10 ⟨v10, rfl, ho10, hb10⟩
  obtain ⟨A10, c10, rfl, -, -⟩ := (Sl.of_owns ho10).shape
  have HS10 := Lib.hid (Sl.of_owns ho10)
  have HB10 := Lib.hid hb10
  clear ho10 hb10
  refine hK.out _ _ (⟨cell_keep HB10.out hHeld.1, cell_keep HB10.out hHeld.2.1, cell_keep HB10.out hHeld.2.2.1, cell_keep HB10.out hHeld.2.2.2⟩) (fun hHeld => ?_)
  clear hK K
  try simp only [Act.put, List.setIfInBounds_toArray, List.set_cons_zero, List.set_cons_succ, List.getElem_toArray, List.getElem_cons_zero, List.getElem_cons_succ]
  refine wpAnyH_take (i := 12) (v := ?_) rfl (by kernel_rfl) (by kernel_rfl) (by kernel_rfl) (fun _ _ _ h => h) (Or.inl ⟨by rfl, ?_⟩) (by assumption) ?_
  rotate_left
  · intro w hSw
    try dsimp only at hSw
    go_simp
    try with_reducible rfl
  rotate_left
  try simp only [Act.put, List.setIfInBounds_toArray, List.set_cons_zero, List.set_cons_succ, List.getElem_toArray, List.getElem_cons_zero, List.getElem_cons_succ]
  refine wpAnyH_done (by kernel_rfl) ?_ _
  clear hHeld hpre hpost
  have hB79 : Below w7.heap.size w7 w10 := (((Below.refl _ _).alloc (Nat.le_refl _) _).alloc (by simp) _).trans (HB10.out.mono (by simp; omega))
  have hB10 : Below w.heap.size w w10 := below_trans HB7.out hB79 HB7.out.size
  have hfit10 : Fit (RowR w10) 4 (css.take i ++ ([[Value.int .i64 cl7, Value.int .i64 ep7, Value.int .i64 dn7, Value.slice A7 l7.length c7]] ++ css.drop (i + 1))) (rs.take i ++ (⟨cl7, ep7, dn7, l7⟩ : TRow) :: rs.drop (i + 1)) :=
    ((HFIT.out.take i).mono fun _ _ h => h.below hB10).append ((Fit.one (R := RowR w10) (k := 4) (cs := [Value.int .i64 cl7, Value.int .i64 ep7, Value.int .i64 dn7, Value.slice A7 l7.length c7]) (a := ⟨cl7, ep7, dn7, l7⟩) rfl ⟨_, rfl, HS7.out.below hB79, HF.out.1, HF.out.2.1, HF.out.2.2.1, HF.out.2.2.2⟩).append ((HFIT.out.drop (i + 1)).mono fun _ _ h => h.below hB10))
  have hres : RowsIn w10 (.slice A10 (rs.take i ++ (⟨cl7, ep7, dn7, l7⟩ : TRow) :: rs.drop (i + 1)).length c10) (rs.take i ++ (⟨cl7, ep7, dn7, l7⟩ : TRow) :: rs.drop (i + 1)) := by
    refine hfit10.slOf ?_
    rw [show (css.take i ++ ([[Value.int .i64 cl7, Value.int .i64 ep7, Value.int .i64 dn7, Value.slice A7 l7.length c7]] ++ css.drop (i + 1))).flatten = catL [(Value.slice (some ⟨b, off, none⟩) i c, i, (css.take i).flatten), (Value.slice (some ⟨w7.heap.size, 0, none⟩) 1 1, 1, [Value.int .i64 cl7, Value.int .i64 ep7, Value.int .i64 dn7, Value.slice A7 l7.length c7]), (Value.slice A' n' c', n', (css.drop (i + 1)).flatten)] from by simp [catL]]
    rw [HL.out]
    exact HS10.out
  have HRES := Lib.hid (And.intro hres hB10)
  clear hfit10 hres hB10 hB79
  go_wp2_with fail
  go_ret
  exact ⟨A10, c10, by rw [HL.out]; rfl, HRES.out.1, HRES.out.2⟩

set_option maxRecDepth 100000 in
set_option maxHeartbeats 8000000 in
theorem changed_none_for (rs : List TRow) (A : Option Addr) (c : Nat) (n ep : Int) (p7 : Nat) (f : TRow → TRow) (w : World) (hr : RowsIn w (.slice A rs.length c) rs) (hn : rs.length ≤ 100000) (n1 : -9223372036854775808 ≤ n) (n2 : n ≤ 9223372036854775807) (e1 : -9223372036854775808 ≤ ep) (e2 : ep ≤ 9223372036854775807)
    (hclo : ∀ (W : World) (r : TRow) (A : Option Addr) (c : Nat), Below w.heap.size w W → SlOf DecR W 2 (.slice A r.l.length c) r.l → r.l.length ≤ 100000 → i64ok r.client → i64ok r.epoch → i64ok r.done → Calls Try.prog 36 #[.agg #[.int .i64 r.client, .int .i64 r.epoch, .int .i64 r.done, .slice A r.l.length c], .pointer (some ⟨p7, 0, none⟩)] W (RowIs W (f r))) (i : Nat) (hp : placeN (rs.map (·.client)) n = (i, false)) (hf : (f ⟨n, ep, 0, []⟩).l.length ≤ 8796093022207 ∧ i64ok (f ⟨n, ep, 0, []⟩).client ∧ i64ok (f ⟨n, ep, 0, []⟩).epoch ∧ i64ok (f ⟨n, ep, 0, []⟩).done) :
    Calls Try.prog 32 #[.slice A rs.length c, .int .i64 n, .int .i64 ep, .func (.func 36) #[] #[.pointer (some ⟨p7, 0, none⟩)]] w (RowsRet w (rs.take i ++ f ⟨n, ep, 0, []⟩ :: rs.drop i)) := by
  have hil := placeN_le (rs.map (·.client)) n
  rw [hp, List.length_map] at hil
  simp only at hil
  have hcap : rs.length ≤ c := by
    obtain ⟨css, h, _⟩ := hr
    obtain ⟨_, _, he, hc, _⟩ := h.shape
    simp only [Value.slice.injEq] at he
    omega
  obtain ⟨W1, hW1⟩ : ∃ W1, W1 = w.alloc (.cells #[.int .i64 n, .int .i64 ep, .int .i64 0, .slice none 0 0] 63) := ⟨_, rfl⟩
  have hb1 : Below w.heap.size w W1 := by rw [hW1]; exact (Below.refl _ _).alloc (Nat.le_refl _) _
  have HT1 := Lib.hid (show TBox W1 w.heap.size 63 #[.int .i64 n, .int .i64 ep, .int .i64 0, .slice none 0 0] from by rw [hW1]; exact TBox.new _ _ _)
  have HRO := Lib.hid (table_rowOf rs A c n W1 (hr.below hb1) (by omega) n1 n2)
  rw [hp] at HRO
  have hpre := fun W : World => run_pre rowElem A rs.length c i (by omega) W
  have hpost := fun W : World => run_post rowElem A rs.length c i (by omega) W
  obtain ⟨css, hfit, hslc⟩ := SlOf.parts hr
  have hpiece := hfit.post hslc i (by omega)
  obtain ⟨A', hA'⟩ : ∃ A', A' = cutA A c i 4 := ⟨_, rfl⟩
  obtain ⟨n', hn'⟩ : ∃ n', n' = rs.length - i := ⟨_, rfl⟩
  obtain ⟨c', hc'⟩ : ∃ c', c' = c - i := ⟨_, rfl⟩
  simp only [← hA', ← hn', ← hc'] at hpost
  rw [← hA', ← hn', ← hc'] at hpiece
  have HPI := Lib.hid (And.intro (hfit.pre hslc i hil) hpiece)
  have HFIT := Lib.hid hfit
  have HPP := Lib.hid (And.intro hpre hpost)
  have HLL := Lib.hid hn'
  have HR := Lib.hid hr
  have HCLO := Lib.hid hclo
  have HF := Lib.hid hf
  have HW1 := Lib.hid hW1
  have HB1 := Lib.hid hb1
  clear hpre hpost hA' hn' hc' hr hclo hf hW1 hb1 hp hpiece hfit hslc
  go_enter Try.func32, Try.ntmps32
  go_wp2_with fail
  rw [← HW1.out]
  refine HRO.out.mono ?_
  rintro e w2 ⟨rfl, hb2⟩
  have HT2 := Lib.hid (HT1.out.below hb2)
  have HB2 := Lib.hid (below_trans HB1.out hb2 HB1.out.size)
  clear hb2
  go_wp2_with fail
  have hpre := HPP.out.1
  have hpost := HPP.out.2
  try simp only [show ((i + 1 : Nat) : Int) = (i : Int) + 1 from rfl] at hpost
  have hi0 : (0 : Int) ≤ (i : Int) := by omega
  have hi1 : (i : Int) ≤ (rs.length : Int) := by omega
  have hi2 : (i : Int) ≤ (c : Int) := by omega
  refine wp_region_held_drew (S := fun V => V.cell? ⟨w.heap.size, 0, none⟩ = some (.int .i64 n) ∧ V.cell? ⟨w.heap.size, 1, none⟩ = some (.int .i64 ep) ∧ V.cell? ⟨w.heap.size, 2, none⟩ = some (.int .i64 0) ∧ V.cell? ⟨w.heap.size, 3, none⟩ = some (.slice none 0 0)) (by kernel_rfl) (⟨HT2.out.cell 0, HT2.out.cell 1, HT2.out.cell 2, HT2.out.cell 3⟩) (fun hHeld => ?_)
  refine wpAnyH_take (i := 0) (v := ?_) rfl (by kernel_rfl) (by kernel_rfl) (by kernel_rfl) (fun _ _ _ h => h) (Or.inl ⟨by rfl, ?_⟩) (by assumption) ?_
  rotate_left
  · intro w hSw
    try dsimp only at hSw
    go_simp
    try with_reducible rfl
  rotate_left
  try simp only [Act.put, List.setIfInBounds_toArray, List.set_cons_zero, List.set_cons_succ, List.getElem_toArray, List.getElem_cons_zero, List.getElem_cons_succ]
  refine wpAnyH_take (i := 1) (v := ?_) rfl (by kernel_rfl) (by kernel_rfl) (by kernel_rfl) (fun _ _ _ h => h) (Or.inl ⟨by rfl, ?_⟩) (by assumption) ?_
  rotate_left
  · intro w hSw
    try dsimp only at hSw
    go_simp
    try with_reducible rfl
  rotate_left
  try simp only [Act.put, List.setIfInBounds_toArray, List.set_cons_zero, List.set_cons_succ, List.getElem_toArray, List.getElem_cons_zero, List.getElem_cons_succ]
  refine wpAnyH_take (i := 2) (v := ?_) rfl (by kernel_rfl) (by kernel_rfl) (by kernel_rfl) (fun _ _ _ h => h) (Or.inl ⟨by rfl, ?_⟩) (by assumption) ?_
  rotate_left
  · intro w hSw
    try dsimp only at hSw
    go_simp
    try with_reducible rfl
  rotate_left
  try simp only [Act.put, List.setIfInBounds_toArray, List.set_cons_zero, List.set_cons_succ, List.getElem_toArray, List.getElem_cons_zero, List.getElem_cons_succ]
  refine wpAnyH_take (i := 3) (v := ?_) rfl (by kernel_rfl) (by kernel_rfl) (by kernel_rfl) (fun _ _ _ h => h) (Or.inl ⟨by rfl, ?_⟩) (by assumption) ?_
  rotate_left
  · intro w hSw
    try dsimp only at hSw
    go_simp
    try with_reducible rfl
  rotate_left
  try simp only [Act.put, List.setIfInBounds_toArray, List.set_cons_zero, List.set_cons_succ, List.getElem_toArray, List.getElem_cons_zero, List.getElem_cons_succ]
  refine wpAnyH_take (i := 4) (v := ?_) rfl (by kernel_rfl) (by kernel_rfl) (by kernel_rfl) (fun _ _ _ h => h) (Or.inl ⟨by rfl, ?_⟩) (by assumption) ?_
  rotate_left
  · intro w hSw
    try dsimp only at hSw
    go_simp
    try with_reducible rfl
  rotate_left
  try simp only [Act.put, List.setIfInBounds_toArray, List.set_cons_zero, List.set_cons_succ, List.getElem_toArray, List.getElem_cons_zero, List.getElem_cons_succ]
  refine wpAnyH_take (i := 7) (v := ?_) rfl (by kernel_rfl) (by kernel_rfl) (by kernel_rfl) (fun _ _ _ h => h) (Or.inl ⟨by rfl, ?_⟩) (by assumption) ?_
  rotate_left
  · intro w hSw
    try dsimp only at hSw
    go_simp
    try with_reducible rfl
  rotate_left
  try simp only [Act.put, List.setIfInBounds_toArray, List.set_cons_zero, List.set_cons_succ, List.getElem_toArray, List.getElem_cons_zero, List.getElem_cons_succ]
  refine wpAnyH_take (i := 8) (v := ?_) rfl (by kernel_rfl) (by kernel_rfl) (by kernel_rfl) (fun _ _ _ h => h) (Or.inl ⟨by rfl, ?_⟩) (by assumption) ?_
  rotate_left
  · intro w hSw
    try dsimp only at hSw
    go_simp
    try with_reducible rfl
  rotate_left
  try simp only [Act.put, List.setIfInBounds_toArray, List.set_cons_zero, List.set_cons_succ, List.getElem_toArray, List.getElem_cons_zero, List.getElem_cons_succ]
  refine wpAnyH_take (i := 9) (v := ?_) rfl (by kernel_rfl) (by kernel_rfl) (by kernel_rfl) (fun _ _ _ h => h) (Or.inl ⟨by rfl, ?_⟩) (by assumption) ?_
  rotate_left
  · intro w hSw
    try dsimp only at hSw
    go_simp
    try with_reducible rfl
  rotate_left
  try simp only [Act.put, List.setIfInBounds_toArray, List.set_cons_zero, List.set_cons_succ, List.getElem_toArray, List.getElem_cons_zero, List.getElem_cons_succ]
  refine wpAnyH_ready (rs := [5]) (by kernel_rfl) (by simp) ?_
  refine (AllReadyH.cons rfl (fun K hK => ?_) AllReadyH.nil)
  rw [if_pos (by rfl)]
  go_wp2_with fail
  refine (HCLO.out _ ⟨n, ep, 0, []⟩ none 0 (below_dn HB2.out 1) ⟨[], Sl.nil _ _, rfl, fun i cs a hc => by simp at hc⟩ (by simp) ⟨n1, n2⟩ ⟨e1, e2⟩ ⟨by simp, by simp⟩).mono ?_
  rintro e w7 ⟨A7, c7, rfl, hsl7, hb7⟩
  have HS7 := Lib.hid hsl7
  have HBD := Lib.hid (show Below w2.heap.size w2 w7 from (below_dn (Below.refl _ _) 1).trans hb7)
  have HB7 := Lib.hid (below_trans HB2.out HBD.out HB2.out.size)
  clear hb7 hsl7
  generalize f ⟨n, ep, 0, []⟩ = r7 at *
  obtain ⟨cl7, ep7, dn7, l7⟩ := r7
  simp only at HS7 HF ⊢
  refine hK.out _ _ (⟨cell_keep HBD.out hHeld.1, cell_keep HBD.out hHeld.2.1, cell_keep HBD.out hHeld.2.2.1, cell_keep HBD.out hHeld.2.2.2⟩) (fun hHeld => ?_)
  clear hK K
  try simp only [Act.put, List.setIfInBounds_toArray, List.set_cons_zero, List.set_cons_succ, List.getElem_toArray, List.getElem_cons_zero, List.getElem_cons_succ]
  refine wpAnyH_ready (rs := [6]) (by kernel_rfl) (by simp) ?_
  refine (AllReadyH.cons rfl (fun K hK => ?_) AllReadyH.nil)
  rw [if_pos (by rfl)]
  go_wp2_with fail
  refine hK.out _ _ (⟨cell_alloc _ hHeld.1, cell_alloc _ hHeld.2.1, cell_alloc _ hHeld.2.2.1, cell_alloc _ hHeld.2.2.2⟩) (fun hHeld => ?_)
  clear hK K
  try simp only [Act.put, List.setIfInBounds_toArray, List.set_cons_zero, List.set_cons_succ, List.getElem_toArray, List.getElem_cons_zero, List.getElem_cons_succ]
  refine wpAnyH_ready (rs := [10]) (by kernel_rfl) (by simp) ?_
  refine (AllReadyH.cons rfl (fun K hK => ?_) AllReadyH.nil)
  refine step_build_run rfl _ _ _ rfl _ (by simp [Act.eval]) _ _ (run_build3 rowsElem (.slice A i c) (.slice (some ⟨w7.heap.size, 0, none⟩) 1 1) (.slice A' n' c') rfl rfl rfl _) ?_
  refine hK.out _ _ (⟨cell_alloc _ hHeld.1, cell_alloc _ hHeld.2.1, cell_alloc _ hHeld.2.2.1, cell_alloc _ hHeld.2.2.2⟩) (fun hHeld => ?_)
  clear hK K
  try simp only [Act.put, List.setIfInBounds_toArray, List.set_cons_zero, List.set_cons_succ, List.getElem_toArray, List.getElem_cons_zero, List.getElem_cons_succ]
  refine wpAnyH_ready (rs := [11]) (by kernel_rfl) (by simp) ?_
  refine (AllReadyH.cons rfl (fun K hK => ?_) AllReadyH.nil)
  obtain ⟨w8, hw8⟩ : ∃ w8, w8 = w7.alloc (.cells #[.int .i64 cl7, .int .i64 ep7, .int .i64 dn7, .slice A7 l7.length c7] 63) := ⟨_, rfl⟩
  have b78 : Below w7.heap.size w7 w8 := by rw [hw8]; exact (Below.refl _ _).alloc (Nat.le_refl _) _
  have hs8 : w8.heap.size = w7.heap.size + 1 := by rw [hw8]; simp
  have hB8 : Below w.heap.size w w8 := below_trans HB7.out b78 HB7.out.size
  have sl2 : Sl w8 4 (.slice (some ⟨w7.heap.size, 0, none⟩) 1 1) 1 [Value.int .i64 cl7, Value.int .i64 ep7, Value.int .i64 dn7, Value.slice A7 l7.length c7] := by rw [hw8]; exact sl_one (w := w7) (t := 63) [Value.int .i64 cl7, Value.int .i64 ep7, Value.int .i64 dn7, Value.slice A7 l7.length c7]
  have hcats := cats3 (w := w8) (k := 4) (t := 22) (p1 := (.slice A i c, i, (css.take i).flatten)) (p2 := (.slice (some ⟨w7.heap.size, 0, none⟩) 1 1, 1, [Value.int .i64 cl7, Value.int .i64 ep7, Value.int .i64 dn7, Value.slice A7 l7.length c7])) (p3 := (.slice A' n' c', n', (css.drop i).flatten)) (HPI.out.1.below hB8) sl2 (HPI.out.2.below hB8) ((HFIT.out.take i).cells rowR_one) (fun u hu => by simp at hu; rcases hu with rfl | rfl | rfl | rfl <;> rfl) ((HFIT.out.drop i).cells rowR_one)
  have hcc := concat_rows _ _ _ hcats (by simp) (by simp [catN]; have := HLL.out; omega)
  have hlen : catN [(Value.slice A i c, i, (css.take i).flatten), (Value.slice (some ⟨w7.heap.size, 0, none⟩) 1 1, 1, [Value.int .i64 cl7, Value.int .i64 ep7, Value.int .i64 dn7, Value.slice A7 l7.length c7]), (Value.slice A' n' c', n', (css.drop i).flatten)] = (rs.take i ++ (⟨cl7, ep7, dn7, l7⟩ : TRow) :: rs.drop i).length := by
    have := HLL.out
    simp only [catN, List.map_cons, List.map_nil, List.sum_cons, List.sum_nil, List.length_append, List.length_take, List.length_drop, List.length_cons, List.length_nil]
    omega
  rw [hlen] at hcc
  obtain ⟨L, hL⟩ : ∃ L, L = (rs.take i ++ (⟨cl7, ep7, dn7, l7⟩ : TRow) :: rs.drop i).length := ⟨_, rfl⟩
  rw [← hL] at hcc
  have HL := Lib.hid hL.symm
  clear hL
  have HCC := Lib.hid hcc
  have HB8 := Lib.hid (And.intro b78 hB8)
  rw [hs8, hw8] at HCC
  clear hcats sl2 b78 hs8 hw8 hcc hlen hB8
  rw [if_pos (by rfl)]
  go_wp2_with fail
  refine HCC.out.mono ?_
  rintro e w10 ⟨v10, rfl, ho10, hb10⟩
  obtain ⟨A10, c10, rfl, -, -⟩ := (Sl.of_owns ho10).shape
  have HS10 := Lib.hid (Sl.of_owns ho10)
  have HB10 := Lib.hid hb10
  clear ho10 hb10
  refine hK.out _ _ (⟨cell_keep HB10.out hHeld.1, cell_keep HB10.out hHeld.2.1, cell_keep HB10.out hHeld.2.2.1, cell_keep HB10.out hHeld.2.2.2⟩) (fun hHeld => ?_)
  clear hK K
  try simp only [Act.put, List.setIfInBounds_toArray, List.set_cons_zero, List.set_cons_succ, List.getElem_toArray, List.getElem_cons_zero, List.getElem_cons_succ]
  refine wpAnyH_take (i := 12) (v := ?_) rfl (by kernel_rfl) (by kernel_rfl) (by kernel_rfl) (fun _ _ _ h => h) (Or.inl ⟨by rfl, ?_⟩) (by assumption) ?_
  rotate_left
  · intro w hSw
    try dsimp only at hSw
    go_simp
    try with_reducible rfl
  rotate_left
  try simp only [Act.put, List.setIfInBounds_toArray, List.set_cons_zero, List.set_cons_succ, List.getElem_toArray, List.getElem_cons_zero, List.getElem_cons_succ]
  refine wpAnyH_done (by kernel_rfl) ?_ _
  clear hHeld hpre hpost
  have hB79 : Below w7.heap.size w7 w10 := (((Below.refl _ _).alloc (Nat.le_refl _) _).alloc (by simp) _).trans (HB10.out.mono (by simp; omega))
  have hB10 : Below w.heap.size w w10 := below_trans HB7.out hB79 HB7.out.size
  have hfit10 : Fit (RowR w10) 4 (css.take i ++ ([[Value.int .i64 cl7, Value.int .i64 ep7, Value.int .i64 dn7, Value.slice A7 l7.length c7]] ++ css.drop i)) (rs.take i ++ (⟨cl7, ep7, dn7, l7⟩ : TRow) :: rs.drop i) :=
    ((HFIT.out.take i).mono fun _ _ h => h.below hB10).append ((Fit.one (R := RowR w10) (k := 4) (cs := [Value.int .i64 cl7, Value.int .i64 ep7, Value.int .i64 dn7, Value.slice A7 l7.length c7]) (a := ⟨cl7, ep7, dn7, l7⟩) rfl ⟨_, rfl, HS7.out.below hB79, HF.out.1, HF.out.2.1, HF.out.2.2.1, HF.out.2.2.2⟩).append ((HFIT.out.drop i).mono fun _ _ h => h.below hB10))
  have hres : RowsIn w10 (.slice A10 (rs.take i ++ (⟨cl7, ep7, dn7, l7⟩ : TRow) :: rs.drop i).length c10) (rs.take i ++ (⟨cl7, ep7, dn7, l7⟩ : TRow) :: rs.drop i) := by
    refine hfit10.slOf ?_
    rw [show (css.take i ++ ([[Value.int .i64 cl7, Value.int .i64 ep7, Value.int .i64 dn7, Value.slice A7 l7.length c7]] ++ css.drop i)).flatten = catL [(Value.slice A i c, i, (css.take i).flatten), (Value.slice (some ⟨w7.heap.size, 0, none⟩) 1 1, 1, [Value.int .i64 cl7, Value.int .i64 ep7, Value.int .i64 dn7, Value.slice A7 l7.length c7]), (Value.slice A' n' c', n', (css.drop i).flatten)] from by simp [catL]]
    rw [HL.out]
    exact HS10.out
  have HRES := Lib.hid (And.intro hres hB10)
  clear hfit10 hres hB10 hB79
  go_wp2_with fail
  go_ret
  exact ⟨A10, c10, by rw [HL.out]; rfl, HRES.out.1, HRES.out.2⟩

set_option maxRecDepth 100000 in
set_option maxHeartbeats 8000000 in
theorem changed_other_for (rs : List TRow) (A : Option Addr) (c : Nat) (n ep : Int) (p7 : Nat) (f : TRow → TRow) (w : World) (hr : RowsIn w (.slice A rs.length c) rs) (hn : rs.length ≤ 100000) (n1 : -9223372036854775808 ≤ n) (n2 : n ≤ 9223372036854775807) (e1 : -9223372036854775808 ≤ ep) (e2 : ep ≤ 9223372036854775807)
    (hclo : ∀ (W : World) (r : TRow) (A : Option Addr) (c : Nat), Below w.heap.size w W → SlOf DecR W 2 (.slice A r.l.length c) r.l → r.l.length ≤ 100000 → i64ok r.client → i64ok r.epoch → i64ok r.done → Calls Try.prog 36 #[.agg #[.int .i64 r.client, .int .i64 r.epoch, .int .i64 r.done, .slice A r.l.length c], .pointer (some ⟨p7, 0, none⟩)] W (RowIs W (f r))) (i : Nat) (hp : placeN (rs.map (·.client)) n = (i, true)) (r : TRow) (hri : rs[i]? = some r) (hre : r.epoch ≠ ep) (hf : (f ⟨n, ep, 0, []⟩).l.length ≤ 8796093022207 ∧ i64ok (f ⟨n, ep, 0, []⟩).client ∧ i64ok (f ⟨n, ep, 0, []⟩).epoch ∧ i64ok (f ⟨n, ep, 0, []⟩).done) :
    Calls Try.prog 32 #[.slice A rs.length c, .int .i64 n, .int .i64 ep, .func (.func 36) #[] #[.pointer (some ⟨p7, 0, none⟩)]] w (RowsRet w (rs.take i ++ f ⟨n, ep, 0, []⟩ :: rs.drop (i + 1))) := by
  have hil := placeN_le (rs.map (·.client)) n
  rw [hp, List.length_map] at hil
  simp only at hil
  have hcap : rs.length ≤ c := by
    obtain ⟨css, h, _⟩ := hr
    obtain ⟨_, _, he, hc, _⟩ := h.shape
    simp only [Value.slice.injEq] at he
    omega
  have hilt := (List.getElem?_eq_some_iff.1 hri).1
  have hrg := (List.getElem?_eq_some_iff.1 hri).2
  obtain ⟨W1, hW1⟩ : ∃ W1, W1 = w.alloc (.cells #[.int .i64 n, .int .i64 ep, .int .i64 0, .slice none 0 0] 63) := ⟨_, rfl⟩
  have hb1 : Below w.heap.size w W1 := by rw [hW1]; exact (Below.refl _ _).alloc (Nat.le_refl _) _
  have HT1 := Lib.hid (show TBox W1 w.heap.size 63 #[.int .i64 n, .int .i64 ep, .int .i64 0, .slice none 0 0] from by rw [hW1]; exact TBox.new _ _ _)
  have HRO := Lib.hid (table_rowOf rs A c n W1 (hr.below hb1) (by omega) n1 n2)
  rw [hp] at HRO
  have hpre := fun W : World => run_pre rowElem A rs.length c i (by omega) W
  have hpost := fun W : World => run_post rowElem A rs.length c (i + 1) (by omega) W
  obtain ⟨css, hfit, hslc⟩ := SlOf.parts hr
  have hpiece := hfit.post hslc (i + 1) (by omega)
  obtain ⟨A', hA'⟩ : ∃ A', A' = cutA A c (i + 1) 4 := ⟨_, rfl⟩
  obtain ⟨n', hn'⟩ : ∃ n', n' = rs.length - (i + 1) := ⟨_, rfl⟩
  obtain ⟨c', hc'⟩ : ∃ c', c' = c - (i + 1) := ⟨_, rfl⟩
  simp only [← hA', ← hn', ← hc'] at hpost
  rw [← hA', ← hn', ← hc'] at hpiece
  have HPI := Lib.hid (And.intro (hfit.pre hslc i hil) hpiece)
  have HFIT := Lib.hid hfit
  have HPP := Lib.hid (And.intro hpre hpost)
  have HLL := Lib.hid hn'
  have HR := Lib.hid hr
  have HCLO := Lib.hid hclo
  have HF := Lib.hid hf
  have HW1 := Lib.hid hW1
  have HB1 := Lib.hid hb1
  clear hpre hpost hA' hn' hc' hr hclo hf hW1 hb1 hp hpiece hfit hslc
  go_enter Try.func32, Try.ntmps32
  go_wp2_with fail
  rw [← HW1.out]
  refine HRO.out.mono ?_
  rintro e w2 ⟨rfl, hb2⟩
  have HT2 := Lib.hid (HT1.out.below hb2)
  have HB2 := Lib.hid (below_trans HB1.out hb2 HB1.out.size)
  clear hb2
  obtain ⟨b, off, A0, c0, rfl, hbk, u0, u1, u2, u3, hsl0, hll0, ho0, ho1, ho2⟩ := HR.out.at i hilt
  have q0 := cell_keep HB2.out u0
  have q1 := cell_keep HB2.out u1
  have q2 := cell_keep HB2.out u2
  have q3 := cell_keep HB2.out u3
  clear u0 u1 u2 u3
  rw [hrg] at q0 q1 q2 q3 hsl0 hll0 ho0 ho1 ho2
  obtain ⟨rc, re, rd, rl⟩ := r
  simp only at q0 q1 q2 q3 hsl0 hll0 ho0 ho1 ho2 hre
  have HSL0 := Lib.hid hsl0
  have HO := Lib.hid (And.intro ho0 (And.intro ho1 ho2))
  have hii : (0 : Int) ≤ (i : Int) := by omega
  have hij : (i : Int) < (rs.length : Int) := by omega
  clear hsl0 hrg hri ho0 ho1 ho2
  have hne : (re == ep) = false := by simpa using hre
  clear hre
  go_wp2_with fail
  have hpre := HPP.out.1
  have hpost := HPP.out.2
  try simp only [show ((i + 1 : Nat) : Int) = (i : Int) + 1 from rfl] at hpost
  have hi0 : (0 : Int) ≤ (i : Int) := by omega
  have hi1 : (i : Int) ≤ (rs.length : Int) := by omega
  have hi2 : (i : Int) ≤ (c : Int) := by omega
  refine wp_region_held_drew (S := fun V => V.cell? ⟨w.heap.size, 0, none⟩ = some (.int .i64 n) ∧ V.cell? ⟨w.heap.size, 1, none⟩ = some (.int .i64 ep) ∧ V.cell? ⟨w.heap.size, 2, none⟩ = some (.int .i64 0) ∧ V.cell? ⟨w.heap.size, 3, none⟩ = some (.slice none 0 0)) (by kernel_rfl) (⟨HT2.out.cell 0, HT2.out.cell 1, HT2.out.cell 2, HT2.out.cell 3⟩) (fun hHeld => ?_)
  refine wpAnyH_take (i := 0) (v := ?_) rfl (by kernel_rfl) (by kernel_rfl) (by kernel_rfl) (fun _ _ _ h => h) (Or.inl ⟨by rfl, ?_⟩) (by assumption) ?_
  rotate_left
  · intro w hSw
    try dsimp only at hSw
    go_simp
    try with_reducible rfl
  rotate_left
  try simp only [Act.put, List.setIfInBounds_toArray, List.set_cons_zero, List.set_cons_succ, List.getElem_toArray, List.getElem_cons_zero, List.getElem_cons_succ]
  refine wpAnyH_take (i := 1) (v := ?_) rfl (by kernel_rfl) (by kernel_rfl) (by kernel_rfl) (fun _ _ _ h => h) (Or.inl ⟨by rfl, ?_⟩) (by assumption) ?_
  rotate_left
  · intro w hSw
    try dsimp only at hSw
    go_simp
    try with_reducible rfl
  rotate_left
  try simp only [Act.put, List.setIfInBounds_toArray, List.set_cons_zero, List.set_cons_succ, List.getElem_toArray, List.getElem_cons_zero, List.getElem_cons_succ]
  refine wpAnyH_take (i := 2) (v := ?_) rfl (by kernel_rfl) (by kernel_rfl) (by kernel_rfl) (fun _ _ _ h => h) (Or.inl ⟨by rfl, ?_⟩) (by assumption) ?_
  rotate_left
  · intro w hSw
    try dsimp only at hSw
    go_simp
    try with_reducible rfl
  rotate_left
  try simp only [Act.put, List.setIfInBounds_toArray, List.set_cons_zero, List.set_cons_succ, List.getElem_toArray, List.getElem_cons_zero, List.getElem_cons_succ]
  refine wpAnyH_take (i := 3) (v := ?_) rfl (by kernel_rfl) (by kernel_rfl) (by kernel_rfl) (fun _ _ _ h => h) (Or.inl ⟨by rfl, ?_⟩) (by assumption) ?_
  rotate_left
  · intro w hSw
    try dsimp only at hSw
    go_simp
    try with_reducible rfl
  rotate_left
  try simp only [Act.put, List.setIfInBounds_toArray, List.set_cons_zero, List.set_cons_succ, List.getElem_toArray, List.getElem_cons_zero, List.getElem_cons_succ]
  refine wpAnyH_take (i := 4) (v := ?_) rfl (by kernel_rfl) (by kernel_rfl) (by kernel_rfl) (fun _ _ _ h => h) (Or.inl ⟨by rfl, ?_⟩) (by assumption) ?_
  rotate_left
  · intro w hSw
    try dsimp only at hSw
    go_simp
    try with_reducible rfl
  rotate_left
  try simp only [Act.put, List.setIfInBounds_toArray, List.set_cons_zero, List.set_cons_succ, List.getElem_toArray, List.getElem_cons_zero, List.getElem_cons_succ]
  refine wpAnyH_take (i := 7) (v := ?_) rfl (by kernel_rfl) (by kernel_rfl) (by kernel_rfl) (fun _ _ _ h => h) (Or.inl ⟨by rfl, ?_⟩) (by assumption) ?_
  rotate_left
  · intro w hSw
    try dsimp only at hSw
    go_simp
    try with_reducible rfl
  rotate_left
  try simp only [Act.put, List.setIfInBounds_toArray, List.set_cons_zero, List.set_cons_succ, List.getElem_toArray, List.getElem_cons_zero, List.getElem_cons_succ]
  refine wpAnyH_take (i := 8) (v := ?_) rfl (by kernel_rfl) (by kernel_rfl) (by kernel_rfl) (fun _ _ _ h => h) (Or.inl ⟨by rfl, ?_⟩) (by assumption) ?_
  rotate_left
  · intro w hSw
    try dsimp only at hSw
    go_simp
    try with_reducible rfl
  rotate_left
  try simp only [Act.put, List.setIfInBounds_toArray, List.set_cons_zero, List.set_cons_succ, List.getElem_toArray, List.getElem_cons_zero, List.getElem_cons_succ]
  refine wpAnyH_take (i := 9) (v := ?_) rfl (by kernel_rfl) (by kernel_rfl) (by kernel_rfl) (fun _ _ _ h => h) (Or.inl ⟨by rfl, ?_⟩) (by assumption) ?_
  rotate_left
  · intro w hSw
    try dsimp only at hSw
    go_simp
    try with_reducible rfl
  rotate_left
  try simp only [Act.put, List.setIfInBounds_toArray, List.set_cons_zero, List.set_cons_succ, List.getElem_toArray, List.getElem_cons_zero, List.getElem_cons_succ]
  refine wpAnyH_ready (rs := [5]) (by kernel_rfl) (by simp) ?_
  refine (AllReadyH.cons rfl (fun K hK => ?_) AllReadyH.nil)
  rw [if_pos (by rfl)]
  go_wp2_with fail
  refine (HCLO.out _ ⟨n, ep, 0, []⟩ none 0 (below_dn HB2.out 1) ⟨[], Sl.nil _ _, rfl, fun i cs a hc => by simp at hc⟩ (by simp) ⟨n1, n2⟩ ⟨e1, e2⟩ ⟨by simp, by simp⟩).mono ?_
  rintro e w7 ⟨A7, c7, rfl, hsl7, hb7⟩
  have HS7 := Lib.hid hsl7
  have HBD := Lib.hid (show Below w2.heap.size w2 w7 from (below_dn (Below.refl _ _) 1).trans hb7)
  have HB7 := Lib.hid (below_trans HB2.out HBD.out HB2.out.size)
  clear hb7 hsl7
  generalize f ⟨n, ep, 0, []⟩ = r7 at *
  obtain ⟨cl7, ep7, dn7, l7⟩ := r7
  simp only at HS7 HF ⊢
  refine hK.out _ _ (⟨cell_keep HBD.out hHeld.1, cell_keep HBD.out hHeld.2.1, cell_keep HBD.out hHeld.2.2.1, cell_keep HBD.out hHeld.2.2.2⟩) (fun hHeld => ?_)
  clear hK K
  try simp only [Act.put, List.setIfInBounds_toArray, List.set_cons_zero, List.set_cons_succ, List.getElem_toArray, List.getElem_cons_zero, List.getElem_cons_succ]
  refine wpAnyH_ready (rs := [6]) (by kernel_rfl) (by simp) ?_
  refine (AllReadyH.cons rfl (fun K hK => ?_) AllReadyH.nil)
  rw [if_pos (by rfl)]
  go_wp2_with fail
  refine hK.out _ _ (⟨cell_alloc _ hHeld.1, cell_alloc _ hHeld.2.1, cell_alloc _ hHeld.2.2.1, cell_alloc _ hHeld.2.2.2⟩) (fun hHeld => ?_)
  clear hK K
  try simp only [Act.put, List.setIfInBounds_toArray, List.set_cons_zero, List.set_cons_succ, List.getElem_toArray, List.getElem_cons_zero, List.getElem_cons_succ]
  refine wpAnyH_ready (rs := [10]) (by kernel_rfl) (by simp) ?_
  refine (AllReadyH.cons rfl (fun K hK => ?_) AllReadyH.nil)
  refine step_build_run rfl _ _ _ rfl _ (by simp [Act.eval]) _ _ (run_build3 rowsElem (.slice (some ⟨b, off, none⟩) i c) (.slice (some ⟨w7.heap.size, 0, none⟩) 1 1) (.slice A' n' c') rfl rfl rfl _) ?_
  refine hK.out _ _ (⟨cell_alloc _ hHeld.1, cell_alloc _ hHeld.2.1, cell_alloc _ hHeld.2.2.1, cell_alloc _ hHeld.2.2.2⟩) (fun hHeld => ?_)
  clear hK K
  try simp only [Act.put, List.setIfInBounds_toArray, List.set_cons_zero, List.set_cons_succ, List.getElem_toArray, List.getElem_cons_zero, List.getElem_cons_succ]
  refine wpAnyH_ready (rs := [11]) (by kernel_rfl) (by simp) ?_
  refine (AllReadyH.cons rfl (fun K hK => ?_) AllReadyH.nil)
  obtain ⟨w8, hw8⟩ : ∃ w8, w8 = w7.alloc (.cells #[.int .i64 cl7, .int .i64 ep7, .int .i64 dn7, .slice A7 l7.length c7] 63) := ⟨_, rfl⟩
  have b78 : Below w7.heap.size w7 w8 := by rw [hw8]; exact (Below.refl _ _).alloc (Nat.le_refl _) _
  have hs8 : w8.heap.size = w7.heap.size + 1 := by rw [hw8]; simp
  have hB8 : Below w.heap.size w w8 := below_trans HB7.out b78 HB7.out.size
  have sl2 : Sl w8 4 (.slice (some ⟨w7.heap.size, 0, none⟩) 1 1) 1 [Value.int .i64 cl7, Value.int .i64 ep7, Value.int .i64 dn7, Value.slice A7 l7.length c7] := by rw [hw8]; exact sl_one (w := w7) (t := 63) [Value.int .i64 cl7, Value.int .i64 ep7, Value.int .i64 dn7, Value.slice A7 l7.length c7]
  have hcats := cats3 (w := w8) (k := 4) (t := 22) (p1 := (.slice (some ⟨b, off, none⟩) i c, i, (css.take i).flatten)) (p2 := (.slice (some ⟨w7.heap.size, 0, none⟩) 1 1, 1, [Value.int .i64 cl7, Value.int .i64 ep7, Value.int .i64 dn7, Value.slice A7 l7.length c7])) (p3 := (.slice A' n' c', n', (css.drop (i + 1)).flatten)) (HPI.out.1.below hB8) sl2 (HPI.out.2.below hB8) ((HFIT.out.take i).cells rowR_one) (fun u hu => by simp at hu; rcases hu with rfl | rfl | rfl | rfl <;> rfl) ((HFIT.out.drop (i + 1)).cells rowR_one)
  have hcc := concat_rows _ _ _ hcats (by simp) (by simp [catN]; have := HLL.out; omega)
  have hlen : catN [(Value.slice (some ⟨b, off, none⟩) i c, i, (css.take i).flatten), (Value.slice (some ⟨w7.heap.size, 0, none⟩) 1 1, 1, [Value.int .i64 cl7, Value.int .i64 ep7, Value.int .i64 dn7, Value.slice A7 l7.length c7]), (Value.slice A' n' c', n', (css.drop (i + 1)).flatten)] = (rs.take i ++ (⟨cl7, ep7, dn7, l7⟩ : TRow) :: rs.drop (i + 1)).length := by
    have := HLL.out
    simp only [catN, List.map_cons, List.map_nil, List.sum_cons, List.sum_nil, List.length_append, List.length_take, List.length_drop, List.length_cons, List.length_nil]
    omega
  rw [hlen] at hcc
  obtain ⟨L, hL⟩ : ∃ L, L = (rs.take i ++ (⟨cl7, ep7, dn7, l7⟩ : TRow) :: rs.drop (i + 1)).length := ⟨_, rfl⟩
  rw [← hL] at hcc
  have HL := Lib.hid hL.symm
  clear hL
  have HCC := Lib.hid hcc
  have HB8 := Lib.hid (And.intro b78 hB8)
  rw [hs8, hw8] at HCC
  clear hcats sl2 b78 hs8 hw8 hcc hlen hB8
  rw [if_pos (by rfl)]
  go_wp2_with fail
  refine HCC.out.mono ?_
  rintro e w10 ⟨v10, rfl, ho10, hb10⟩
  obtain ⟨A10, c10, rfl, -, -⟩ := (Sl.of_owns ho10).shape
  have HS10 := Lib.hid (Sl.of_owns ho10)
  have HB10 := Lib.hid hb10
  clear ho10 hb10
  refine hK.out _ _ (⟨cell_keep HB10.out hHeld.1, cell_keep HB10.out hHeld.2.1, cell_keep HB10.out hHeld.2.2.1, cell_keep HB10.out hHeld.2.2.2⟩) (fun hHeld => ?_)
  clear hK K
  try simp only [Act.put, List.setIfInBounds_toArray, List.set_cons_zero, List.set_cons_succ, List.getElem_toArray, List.getElem_cons_zero, List.getElem_cons_succ]
  refine wpAnyH_take (i := 12) (v := ?_) rfl (by kernel_rfl) (by kernel_rfl) (by kernel_rfl) (fun _ _ _ h => h) (Or.inl ⟨by rfl, ?_⟩) (by assumption) ?_
  rotate_left
  · intro w hSw
    try dsimp only at hSw
    go_simp
    try with_reducible rfl
  rotate_left
  try simp only [Act.put, List.setIfInBounds_toArray, List.set_cons_zero, List.set_cons_succ, List.getElem_toArray, List.getElem_cons_zero, List.getElem_cons_succ]
  refine wpAnyH_done (by kernel_rfl) ?_ _
  clear hHeld hpre hpost
  have hB79 : Below w7.heap.size w7 w10 := (((Below.refl _ _).alloc (Nat.le_refl _) _).alloc (by simp) _).trans (HB10.out.mono (by simp; omega))
  have hB10 : Below w.heap.size w w10 := below_trans HB7.out hB79 HB7.out.size
  have hfit10 : Fit (RowR w10) 4 (css.take i ++ ([[Value.int .i64 cl7, Value.int .i64 ep7, Value.int .i64 dn7, Value.slice A7 l7.length c7]] ++ css.drop (i + 1))) (rs.take i ++ (⟨cl7, ep7, dn7, l7⟩ : TRow) :: rs.drop (i + 1)) :=
    ((HFIT.out.take i).mono fun _ _ h => h.below hB10).append ((Fit.one (R := RowR w10) (k := 4) (cs := [Value.int .i64 cl7, Value.int .i64 ep7, Value.int .i64 dn7, Value.slice A7 l7.length c7]) (a := ⟨cl7, ep7, dn7, l7⟩) rfl ⟨_, rfl, HS7.out.below hB79, HF.out.1, HF.out.2.1, HF.out.2.2.1, HF.out.2.2.2⟩).append ((HFIT.out.drop (i + 1)).mono fun _ _ h => h.below hB10))
  have hres : RowsIn w10 (.slice A10 (rs.take i ++ (⟨cl7, ep7, dn7, l7⟩ : TRow) :: rs.drop (i + 1)).length c10) (rs.take i ++ (⟨cl7, ep7, dn7, l7⟩ : TRow) :: rs.drop (i + 1)) := by
    refine hfit10.slOf ?_
    rw [show (css.take i ++ ([[Value.int .i64 cl7, Value.int .i64 ep7, Value.int .i64 dn7, Value.slice A7 l7.length c7]] ++ css.drop (i + 1))).flatten = catL [(Value.slice (some ⟨b, off, none⟩) i c, i, (css.take i).flatten), (Value.slice (some ⟨w7.heap.size, 0, none⟩) 1 1, 1, [Value.int .i64 cl7, Value.int .i64 ep7, Value.int .i64 dn7, Value.slice A7 l7.length c7]), (Value.slice A' n' c', n', (css.drop (i + 1)).flatten)] from by simp [catL]]
    rw [HL.out]
    exact HS10.out
  have HRES := Lib.hid (And.intro hres hB10)
  clear hfit10 hres hB10 hB79
  go_wp2_with fail
  go_ret
  exact ⟨A10, c10, by rw [HL.out]; rfl, HRES.out.1, HRES.out.2⟩

set_option maxRecDepth 100000 in
set_option maxHeartbeats 8000000 in
theorem changed_same_for (rs : List TRow) (A : Option Addr) (c : Nat) (n ep : Int) (p7 : Nat) (f : TRow → TRow) (w : World) (hr : RowsIn w (.slice A rs.length c) rs) (hn : rs.length ≤ 100000) (n1 : -9223372036854775808 ≤ n) (n2 : n ≤ 9223372036854775807) (e1 : -9223372036854775808 ≤ ep) (e2 : ep ≤ 9223372036854775807)
    (hclo : ∀ (W : World) (r : TRow) (A : Option Addr) (c : Nat), Below w.heap.size w W → SlOf DecR W 2 (.slice A r.l.length c) r.l → r.l.length ≤ 100000 → i64ok r.client → i64ok r.epoch → i64ok r.done → Calls Try.prog 36 #[.agg #[.int .i64 r.client, .int .i64 r.epoch, .int .i64 r.done, .slice A r.l.length c], .pointer (some ⟨p7, 0, none⟩)] W (RowIs W (f r))) (i : Nat) (hp : placeN (rs.map (·.client)) n = (i, true)) (r : TRow) (hri : rs[i]? = some r) (hre : r.epoch = ep) (hrl : r.l.length ≤ 100000) (hf : (f r).l.length ≤ 8796093022207 ∧ i64ok (f r).client ∧ i64ok (f r).epoch ∧ i64ok (f r).done) :
    Calls Try.prog 32 #[.slice A rs.length c, .int .i64 n, .int .i64 ep, .func (.func 36) #[] #[.pointer (some ⟨p7, 0, none⟩)]] w (RowsRet w (rs.take i ++ f r :: rs.drop (i + 1))) := by
  have hil := placeN_le (rs.map (·.client)) n
  rw [hp, List.length_map] at hil
  simp only at hil
  have hcap : rs.length ≤ c := by
    obtain ⟨css, h, _⟩ := hr
    obtain ⟨_, _, he, hc, _⟩ := h.shape
    simp only [Value.slice.injEq] at he
    omega
  have hilt := (List.getElem?_eq_some_iff.1 hri).1
  have hrg := (List.getElem?_eq_some_iff.1 hri).2
  obtain ⟨W1, hW1⟩ : ∃ W1, W1 = w.alloc (.cells #[.int .i64 n, .int .i64 ep, .int .i64 0, .slice none 0 0] 63) := ⟨_, rfl⟩
  have hb1 : Below w.heap.size w W1 := by rw [hW1]; exact (Below.refl _ _).alloc (Nat.le_refl _) _
  have HT1 := Lib.hid (show TBox W1 w.heap.size 63 #[.int .i64 n, .int .i64 ep, .int .i64 0, .slice none 0 0] from by rw [hW1]; exact TBox.new _ _ _)
  have HRO := Lib.hid (table_rowOf rs A c n W1 (hr.below hb1) (by omega) n1 n2)
  rw [hp] at HRO
  have hpre := fun W : World => run_pre rowElem A rs.length c i (by omega) W
  have hpost := fun W : World => run_post rowElem A rs.length c (i + 1) (by omega) W
  obtain ⟨css, hfit, hslc⟩ := SlOf.parts hr
  have hpiece := hfit.post hslc (i + 1) (by omega)
  obtain ⟨A', hA'⟩ : ∃ A', A' = cutA A c (i + 1) 4 := ⟨_, rfl⟩
  obtain ⟨n', hn'⟩ : ∃ n', n' = rs.length - (i + 1) := ⟨_, rfl⟩
  obtain ⟨c', hc'⟩ : ∃ c', c' = c - (i + 1) := ⟨_, rfl⟩
  simp only [← hA', ← hn', ← hc'] at hpost
  rw [← hA', ← hn', ← hc'] at hpiece
  have HPI := Lib.hid (And.intro (hfit.pre hslc i hil) hpiece)
  have HFIT := Lib.hid hfit
  have HPP := Lib.hid (And.intro hpre hpost)
  have HLL := Lib.hid hn'
  have HR := Lib.hid hr
  have HCLO := Lib.hid hclo
  have HF := Lib.hid hf
  have HW1 := Lib.hid hW1
  have HB1 := Lib.hid hb1
  clear hpre hpost hA' hn' hc' hr hclo hf hW1 hb1 hp hpiece hfit hslc
  go_enter Try.func32, Try.ntmps32
  go_wp2_with fail
  rw [← HW1.out]
  refine HRO.out.mono ?_
  rintro e w2 ⟨rfl, hb2⟩
  have HT2 := Lib.hid (HT1.out.below hb2)
  have HB2 := Lib.hid (below_trans HB1.out hb2 HB1.out.size)
  clear hb2
  obtain ⟨b, off, A0, c0, rfl, hbk, u0, u1, u2, u3, hsl0, hll0, ho0, ho1, ho2⟩ := HR.out.at i hilt
  have q0 := cell_keep HB2.out u0
  have q1 := cell_keep HB2.out u1
  have q2 := cell_keep HB2.out u2
  have q3 := cell_keep HB2.out u3
  clear u0 u1 u2 u3
  rw [hrg] at q0 q1 q2 q3 hsl0 hll0 ho0 ho1 ho2
  obtain ⟨rc, re, rd, rl⟩ := r
  simp only at q0 q1 q2 q3 hsl0 hll0 ho0 ho1 ho2 hre
  have HSL0 := Lib.hid hsl0
  have HO := Lib.hid (And.intro ho0 (And.intro ho1 ho2))
  have hii : (0 : Int) ≤ (i : Int) := by omega
  have hij : (i : Int) < (rs.length : Int) := by omega
  clear hsl0 hrg hri ho0 ho1 ho2
  subst hre
  have p0 : w2.cell? ⟨w.heap.size, 0, none⟩ = some (.int .i64 n) := HT2.out.cell 0
  have p1 : w2.cell? ⟨w.heap.size, 1, none⟩ = some (.int .i64 re) := HT2.out.cell 1
  have p2 : w2.cell? ⟨w.heap.size, 2, none⟩ = some (.int .i64 0) := HT2.out.cell 2
  have p3 : w2.cell? ⟨w.heap.size, 3, none⟩ = some (.slice none 0 0) := HT2.out.cell 3
  have f0 := HT2.out.free 0
  have f1 := HT2.out.free 1
  have f2 := HT2.out.free 2
  have f3 := HT2.out.free 3
  go_wp2_with fail
  obtain ⟨W3, hW3⟩ : ∃ W3, W3 = (((w2.setCell ⟨w.heap.size, 0, none⟩ (.int .i64 rc)).setCell ⟨w.heap.size, 1, none⟩ (.int .i64 re)).setCell ⟨w.heap.size, 2, none⟩ (.int .i64 rd)).setCell ⟨w.heap.size, 3, none⟩ (.slice A0 rl.length c0) := ⟨_, rfl⟩
  rw [← hW3]
  have HT3 := Lib.hid (show TBox W3 w.heap.size 63 #[.int .i64 rc, .int .i64 re, .int .i64 rd, .slice A0 rl.length c0] from by rw [hW3]; exact (((HT2.out.set 0 _).set 1 _).set 2 _).set 3 _)
  have HB3 := Lib.hid (show Below w.heap.size w W3 from by rw [hW3]; exact (((HB2.out.setCell (p := ⟨w.heap.size, 0, none⟩) (Nat.le_refl _) _).setCell (p := ⟨w.heap.size, 1, none⟩) (Nat.le_refl _) _).setCell (p := ⟨w.heap.size, 2, none⟩) (Nat.le_refl _) _).setCell (p := ⟨w.heap.size, 3, none⟩) (Nat.le_refl _) _)
  clear hW3 p0 p1 p2 p3 f0 f1 f2 f3 q0 q1 q2 q3
  replace HT2 := HT3
  replace HB2 := HB3
  have hpre := HPP.out.1
  have hpost := HPP.out.2
  try simp only [show ((i + 1 : Nat) : Int) = (i : Int) + 1 from rfl] at hpost
  have hi0 : (0 : Int) ≤ (i : Int) := by omega
  have hi1 : (i : Int) ≤ (rs.length : Int) := by omega
  have hi2 : (i : Int) ≤ (c : Int) := by omega
  refine wp_region_held_drew (S := fun V => V.cell? ⟨w.heap.size, 0, none⟩ = some (.int .i64 rc) ∧ V.cell? ⟨w.heap.size, 1, none⟩ = some (.int .i64 re) ∧ V.cell? ⟨w.heap.size, 2, none⟩ = some (.int .i64 rd) ∧ V.cell? ⟨w.heap.size, 3, none⟩ = some (.slice A0 rl.length c0)) (by kernel_rfl) (⟨HT2.out.cell 0, HT2.out.cell 1, HT2.out.cell 2, HT2.out.cell 3⟩) (fun hHeld => ?_)
  refine wpAnyH_take (i := 0) (v := ?_) rfl (by kernel_rfl) (by kernel_rfl) (by kernel_rfl) (fun _ _ _ h => h) (Or.inl ⟨by rfl, ?_⟩) (by assumption) ?_
  rotate_left
  · intro w hSw
    try dsimp only at hSw
    go_simp
    try with_reducible rfl
  rotate_left
  try simp only [Act.put, List.setIfInBounds_toArray, List.set_cons_zero, List.set_cons_succ, List.getElem_toArray, List.getElem_cons_zero, List.getElem_cons_succ]
  refine wpAnyH_take (i := 1) (v := ?_) rfl (by kernel_rfl) (by kernel_rfl) (by kernel_rfl) (fun _ _ _ h => h) (Or.inl ⟨by rfl, ?_⟩) (by assumption) ?_
  rotate_left
  · intro w hSw
    try dsimp only at hSw
    go_simp
    try with_reducible rfl
  rotate_left
  try simp only [Act.put, List.setIfInBounds_toArray, List.set_cons_zero, List.set_cons_succ, List.getElem_toArray, List.getElem_cons_zero, List.getElem_cons_succ]
  refine wpAnyH_take (i := 2) (v := ?_) rfl (by kernel_rfl) (by kernel_rfl) (by kernel_rfl) (fun _ _ _ h => h) (Or.inl ⟨by rfl, ?_⟩) (by assumption) ?_
  rotate_left
  · intro w hSw
    try dsimp only at hSw
    go_simp
    try with_reducible rfl
  rotate_left
  try simp only [Act.put, List.setIfInBounds_toArray, List.set_cons_zero, List.set_cons_succ, List.getElem_toArray, List.getElem_cons_zero, List.getElem_cons_succ]
  refine wpAnyH_take (i := 3) (v := ?_) rfl (by kernel_rfl) (by kernel_rfl) (by kernel_rfl) (fun _ _ _ h => h) (Or.inl ⟨by rfl, ?_⟩) (by assumption) ?_
  rotate_left
  · intro w hSw
    try dsimp only at hSw
    go_simp
    try with_reducible rfl
  rotate_left
  try simp only [Act.put, List.setIfInBounds_toArray, List.set_cons_zero, List.set_cons_succ, List.getElem_toArray, List.getElem_cons_zero, List.getElem_cons_succ]
  refine wpAnyH_take (i := 4) (v := ?_) rfl (by kernel_rfl) (by kernel_rfl) (by kernel_rfl) (fun _ _ _ h => h) (Or.inl ⟨by rfl, ?_⟩) (by assumption) ?_
  rotate_left
  · intro w hSw
    try dsimp only at hSw
    go_simp
    try with_reducible rfl
  rotate_left
  try simp only [Act.put, List.setIfInBounds_toArray, List.set_cons_zero, List.set_cons_succ, List.getElem_toArray, List.getElem_cons_zero, List.getElem_cons_succ]
  refine wpAnyH_take (i := 7) (v := ?_) rfl (by kernel_rfl) (by kernel_rfl) (by kernel_rfl) (fun _ _ _ h => h) (Or.inl ⟨by rfl, ?_⟩) (by assumption) ?_
  rotate_left
  · intro w hSw
    try dsimp only at hSw
    go_simp
    try with_reducible rfl
  rotate_left
  try simp only [Act.put, List.setIfInBounds_toArray, List.set_cons_zero, List.set_cons_succ, List.getElem_toArray, List.getElem_cons_zero, List.getElem_cons_succ]
  refine wpAnyH_take (i := 8) (v := ?_) rfl (by kernel_rfl) (by kernel_rfl) (by kernel_rfl) (fun _ _ _ h => h) (Or.inl ⟨by rfl, ?_⟩) (by assumption) ?_
  rotate_left
  · intro w hSw
    try dsimp only at hSw
    go_simp
    try with_reducible rfl
  rotate_left
  try simp only [Act.put, List.setIfInBounds_toArray, List.set_cons_zero, List.set_cons_succ, List.getElem_toArray, List.getElem_cons_zero, List.getElem_cons_succ]
  refine wpAnyH_take (i := 9) (v := ?_) rfl (by kernel_rfl) (by kernel_rfl) (by kernel_rfl) (fun _ _ _ h => h) (Or.inl ⟨by rfl, ?_⟩) (by assumption) ?_
  rotate_left
  · intro w hSw
    try dsimp only at hSw
    go_simp
    try with_reducible rfl
  rotate_left
  try simp only [Act.put, List.setIfInBounds_toArray, List.set_cons_zero, List.set_cons_succ, List.getElem_toArray, List.getElem_cons_zero, List.getElem_cons_succ]
  refine wpAnyH_ready (rs := [5]) (by kernel_rfl) (by simp) ?_
  refine (AllReadyH.cons rfl (fun K hK => ?_) AllReadyH.nil)
  rw [if_pos (by rfl)]
  go_wp2_with fail
  refine (HCLO.out _ ⟨rc, re, rd, rl⟩ A0 c0 (below_dn HB2.out 1) (HSL0.out.below (below_dn HB2.out 1)) hrl HO.out.1 HO.out.2.1 HO.out.2.2).mono ?_
  rintro e w7 ⟨A7, c7, rfl, hsl7, hb7⟩
  have HS7 := Lib.hid hsl7
  have HBD := Lib.hid (show Below W3.heap.size W3 w7 from (below_dn (Below.refl _ _) 1).trans hb7)
  have HB7 := Lib.hid (below_trans HB2.out HBD.out HB2.out.size)
  clear hb7 hsl7
  generalize f ⟨rc, re, rd, rl⟩ = r7 at *
  obtain ⟨cl7, ep7, dn7, l7⟩ := r7
  simp only at HS7 HF ⊢
  refine hK.out _ _ (⟨cell_keep HBD.out hHeld.1, cell_keep HBD.out hHeld.2.1, cell_keep HBD.out hHeld.2.2.1, cell_keep HBD.out hHeld.2.2.2⟩) (fun hHeld => ?_)
  clear hK K
  try simp only [Act.put, List.setIfInBounds_toArray, List.set_cons_zero, List.set_cons_succ, List.getElem_toArray, List.getElem_cons_zero, List.getElem_cons_succ]
  refine wpAnyH_ready (rs := [6]) (by kernel_rfl) (by simp) ?_
  refine (AllReadyH.cons rfl (fun K hK => ?_) AllReadyH.nil)
  rw [if_pos (by rfl)]
  go_wp2_with fail
  refine hK.out _ _ (⟨cell_alloc _ hHeld.1, cell_alloc _ hHeld.2.1, cell_alloc _ hHeld.2.2.1, cell_alloc _ hHeld.2.2.2⟩) (fun hHeld => ?_)
  clear hK K
  try simp only [Act.put, List.setIfInBounds_toArray, List.set_cons_zero, List.set_cons_succ, List.getElem_toArray, List.getElem_cons_zero, List.getElem_cons_succ]
  refine wpAnyH_ready (rs := [10]) (by kernel_rfl) (by simp) ?_
  refine (AllReadyH.cons rfl (fun K hK => ?_) AllReadyH.nil)
  refine step_build_run rfl _ _ _ rfl _ (by simp [Act.eval]) _ _ (run_build3 rowsElem (.slice (some ⟨b, off, none⟩) i c) (.slice (some ⟨w7.heap.size, 0, none⟩) 1 1) (.slice A' n' c') rfl rfl rfl _) ?_
  refine hK.out _ _ (⟨cell_alloc _ hHeld.1, cell_alloc _ hHeld.2.1, cell_alloc _ hHeld.2.2.1, cell_alloc _ hHeld.2.2.2⟩) (fun hHeld => ?_)
  clear hK K
  try simp only [Act.put, List.setIfInBounds_toArray, List.set_cons_zero, List.set_cons_succ, List.getElem_toArray, List.getElem_cons_zero, List.getElem_cons_succ]
  refine wpAnyH_ready (rs := [11]) (by kernel_rfl) (by simp) ?_
  refine (AllReadyH.cons rfl (fun K hK => ?_) AllReadyH.nil)
  obtain ⟨w8, hw8⟩ : ∃ w8, w8 = w7.alloc (.cells #[.int .i64 cl7, .int .i64 ep7, .int .i64 dn7, .slice A7 l7.length c7] 63) := ⟨_, rfl⟩
  have b78 : Below w7.heap.size w7 w8 := by rw [hw8]; exact (Below.refl _ _).alloc (Nat.le_refl _) _
  have hs8 : w8.heap.size = w7.heap.size + 1 := by rw [hw8]; simp
  have hB8 : Below w.heap.size w w8 := below_trans HB7.out b78 HB7.out.size
  have sl2 : Sl w8 4 (.slice (some ⟨w7.heap.size, 0, none⟩) 1 1) 1 [Value.int .i64 cl7, Value.int .i64 ep7, Value.int .i64 dn7, Value.slice A7 l7.length c7] := by rw [hw8]; exact sl_one (w := w7) (t := 63) [Value.int .i64 cl7, Value.int .i64 ep7, Value.int .i64 dn7, Value.slice A7 l7.length c7]
  have hcats := cats3 (w := w8) (k := 4) (t := 22) (p1 := (.slice (some ⟨b, off, none⟩) i c, i, (css.take i).flatten)) (p2 := (.slice (some ⟨w7.heap.size, 0, none⟩) 1 1, 1, [Value.int .i64 cl7, Value.int .i64 ep7, Value.int .i64 dn7, Value.slice A7 l7.length c7])) (p3 := (.slice A' n' c', n', (css.drop (i + 1)).flatten)) (HPI.out.1.below hB8) sl2 (HPI.out.2.below hB8) ((HFIT.out.take i).cells rowR_one) (fun u hu => by simp at hu; rcases hu with rfl | rfl | rfl | rfl <;> rfl) ((HFIT.out.drop (i + 1)).cells rowR_one)
  have hcc := concat_rows _ _ _ hcats (by simp) (by simp [catN]; have := HLL.out; omega)
  have hlen : catN [(Value.slice (some ⟨b, off, none⟩) i c, i, (css.take i).flatten), (Value.slice (some ⟨w7.heap.size, 0, none⟩) 1 1, 1, [Value.int .i64 cl7, Value.int .i64 ep7, Value.int .i64 dn7, Value.slice A7 l7.length c7]), (Value.slice A' n' c', n', (css.drop (i + 1)).flatten)] = (rs.take i ++ (⟨cl7, ep7, dn7, l7⟩ : TRow) :: rs.drop (i + 1)).length := by
    have := HLL.out
    simp only [catN, List.map_cons, List.map_nil, List.sum_cons, List.sum_nil, List.length_append, List.length_take, List.length_drop, List.length_cons, List.length_nil]
    omega
  rw [hlen] at hcc
  obtain ⟨L, hL⟩ : ∃ L, L = (rs.take i ++ (⟨cl7, ep7, dn7, l7⟩ : TRow) :: rs.drop (i + 1)).length := ⟨_, rfl⟩
  rw [← hL] at hcc
  have HL := Lib.hid hL.symm
  clear hL
  have HCC := Lib.hid hcc
  have HB8 := Lib.hid (And.intro b78 hB8)
  rw [hs8, hw8] at HCC
  clear hcats sl2 b78 hs8 hw8 hcc hlen hB8
  rw [if_pos (by rfl)]
  go_wp2_with fail
  refine HCC.out.mono ?_
  rintro e w10 ⟨v10, rfl, ho10, hb10⟩
  obtain ⟨A10, c10, rfl, -, -⟩ := (Sl.of_owns ho10).shape
  have HS10 := Lib.hid (Sl.of_owns ho10)
  have HB10 := Lib.hid hb10
  clear ho10 hb10
  refine hK.out _ _ (⟨cell_keep HB10.out hHeld.1, cell_keep HB10.out hHeld.2.1, cell_keep HB10.out hHeld.2.2.1, cell_keep HB10.out hHeld.2.2.2⟩) (fun hHeld => ?_)
  clear hK K
  try simp only [Act.put, List.setIfInBounds_toArray, List.set_cons_zero, List.set_cons_succ, List.getElem_toArray, List.getElem_cons_zero, List.getElem_cons_succ]
  refine wpAnyH_take (i := 12) (v := ?_) rfl (by kernel_rfl) (by kernel_rfl) (by kernel_rfl) (fun _ _ _ h => h) (Or.inl ⟨by rfl, ?_⟩) (by assumption) ?_
  rotate_left
  · intro w hSw
    try dsimp only at hSw
    go_simp
    try with_reducible rfl
  rotate_left
  try simp only [Act.put, List.setIfInBounds_toArray, List.set_cons_zero, List.set_cons_succ, List.getElem_toArray, List.getElem_cons_zero, List.getElem_cons_succ]
  refine wpAnyH_done (by kernel_rfl) ?_ _
  clear hHeld hpre hpost
  have hB79 : Below w7.heap.size w7 w10 := (((Below.refl _ _).alloc (Nat.le_refl _) _).alloc (by simp) _).trans (HB10.out.mono (by simp; omega))
  have hB10 : Below w.heap.size w w10 := below_trans HB7.out hB79 HB7.out.size
  have hfit10 : Fit (RowR w10) 4 (css.take i ++ ([[Value.int .i64 cl7, Value.int .i64 ep7, Value.int .i64 dn7, Value.slice A7 l7.length c7]] ++ css.drop (i + 1))) (rs.take i ++ (⟨cl7, ep7, dn7, l7⟩ : TRow) :: rs.drop (i + 1)) :=
    ((HFIT.out.take i).mono fun _ _ h => h.below hB10).append ((Fit.one (R := RowR w10) (k := 4) (cs := [Value.int .i64 cl7, Value.int .i64 ep7, Value.int .i64 dn7, Value.slice A7 l7.length c7]) (a := ⟨cl7, ep7, dn7, l7⟩) rfl ⟨_, rfl, HS7.out.below hB79, HF.out.1, HF.out.2.1, HF.out.2.2.1, HF.out.2.2.2⟩).append ((HFIT.out.drop (i + 1)).mono fun _ _ h => h.below hB10))
  have hres : RowsIn w10 (.slice A10 (rs.take i ++ (⟨cl7, ep7, dn7, l7⟩ : TRow) :: rs.drop (i + 1)).length c10) (rs.take i ++ (⟨cl7, ep7, dn7, l7⟩ : TRow) :: rs.drop (i + 1)) := by
    refine hfit10.slOf ?_
    rw [show (css.take i ++ ([[Value.int .i64 cl7, Value.int .i64 ep7, Value.int .i64 dn7, Value.slice A7 l7.length c7]] ++ css.drop (i + 1))).flatten = catL [(Value.slice (some ⟨b, off, none⟩) i c, i, (css.take i).flatten), (Value.slice (some ⟨w7.heap.size, 0, none⟩) 1 1, 1, [Value.int .i64 cl7, Value.int .i64 ep7, Value.int .i64 dn7, Value.slice A7 l7.length c7]), (Value.slice A' n' c', n', (css.drop (i + 1)).flatten)] from by simp [catL]]
    rw [HL.out]
    exact HS10.out
  have HRES := Lib.hid (And.intro hres hB10)
  clear hfit10 hres hB10 hB79
  go_wp2_with fail
  go_ret
  exact ⟨A10, c10, by rw [HL.out]; rfl, HRES.out.1, HRES.out.2⟩

/-- rows in which a client's row is turned -/
def changeF (rs : List TRow) (n ep : Int) (f : TRow → TRow) : List TRow :=
  if (placeN (rs.map (·.client)) n).2 = false then rs.take (placeN (rs.map (·.client)) n).1 ++ f ⟨n, ep, 0, []⟩ :: rs.drop (placeN (rs.map (·.client)) n).1
  else match rs[(placeN (rs.map (·.client)) n).1]? with
    | none => rs
    | some r => rs.take (placeN (rs.map (·.client)) n).1 ++ f (if r.epoch = ep then r else ⟨n, ep, 0, []⟩) :: rs.drop ((placeN (rs.map (·.client)) n).1 + 1)

theorem changed_dec (rs : List TRow) (A : Option Addr) (c : Nat) (n ep : Int) (p8 p9 : Nat) (f : TRow → TRow) (w : World) (hr : RowsIn w (.slice A rs.length c) rs) (hn : rs.length ≤ 100000) (hl : ∀ r ∈ rs, r.l.length ≤ 100000) (n1 : -9223372036854775808 ≤ n) (n2 : n ≤ 9223372036854775807) (e1 : -9223372036854775808 ≤ ep) (e2 : ep ≤ 9223372036854775807)
    (hclo : ∀ (W : World) (r : TRow) (A : Option Addr) (c : Nat), Below w.heap.size w W → SlOf DecR W 2 (.slice A r.l.length c) r.l → r.l.length ≤ 100000 → i64ok r.client → i64ok r.epoch → i64ok r.done → Calls Try.prog 33 #[.agg #[.int .i64 r.client, .int .i64 r.epoch, .int .i64 r.done, .slice A r.l.length c], .pointer (some ⟨p8, 0, none⟩), .pointer (some ⟨p9, 0, none⟩)] W (RowIs W (f r)))
    (hf : ∀ r : TRow, r ∈ rs ∨ r = ⟨n, ep, 0, []⟩ → (f r).l.length ≤ 8796093022207 ∧ i64ok (f r).client ∧ i64ok (f r).epoch ∧ i64ok (f r).done) :
    Calls Try.prog 32 #[.slice A rs.length c, .int .i64 n, .int .i64 ep, .func (.func 33) #[] #[.pointer (some ⟨p8, 0, none⟩), .pointer (some ⟨p9, 0, none⟩)]] w (RowsRet w (changeF rs n ep f)) := by
  unfold changeF
  obtain ⟨i, t, hp⟩ : ∃ i t, placeN (rs.map (·.client)) n = (i, t) := ⟨_, _, rfl⟩
  rw [hp]
  cases t
  · exact changed_none_dec rs A c n ep p8 p9 f w hr hn n1 n2 e1 e2 hclo i hp (hf _ (.inr rfl))
  · obtain ⟨hil, _⟩ := placeN_true _ _ hp
    rw [List.length_map] at hil
    simp only [Bool.true_eq_false, if_false]
    rw [List.getElem?_eq_getElem hil]
    simp only
    by_cases he : rs[i].epoch = ep
    · rw [if_pos he]
      exact changed_same_dec rs A c n ep p8 p9 f w hr hn n1 n2 e1 e2 hclo i hp rs[i] (List.getElem?_eq_getElem hil) he (hl _ (List.getElem_mem _)) (hf _ (.inl (List.getElem_mem _)))
    · rw [if_neg he]
      exact changed_other_dec rs A c n ep p8 p9 f w hr hn n1 n2 e1 e2 hclo i hp rs[i] (List.getElem?_eq_getElem hil) he (hf _ (.inr rfl))

theorem changed_for (rs : List TRow) (A : Option Addr) (c : Nat) (n ep : Int) (p7 : Nat) (f : TRow → TRow) (w : World) (hr : RowsIn w (.slice A rs.length c) rs) (hn : rs.length ≤ 100000) (hl : ∀ r ∈ rs, r.l.length ≤ 100000) (n1 : -9223372036854775808 ≤ n) (n2 : n ≤ 9223372036854775807) (e1 : -9223372036854775808 ≤ ep) (e2 : ep ≤ 9223372036854775807)
    (hclo : ∀ (W : World) (r : TRow) (A : Option Addr) (c : Nat), Below w.heap.size w W → SlOf DecR W 2 (.slice A r.l.length c) r.l → r.l.length ≤ 100000 → i64ok r.client → i64ok r.epoch → i64ok r.done → Calls Try.prog 36 #[.agg #[.int .i64 r.client, .int .i64 r.epoch, .int .i64 r.done, .slice A r.l.length c], .pointer (some ⟨p7, 0, none⟩)] W (RowIs W (f r)))
    (hf : ∀ r : TRow, r ∈ rs ∨ r = ⟨n, ep, 0, []⟩ → (f r).l.length ≤ 8796093022207 ∧ i64ok (f r).client ∧ i64ok (f r).epoch ∧ i64ok (f r).done) :
    Calls Try.prog 32 #[.slice A rs.length c, .int .i64 n, .int .i64 ep, .func (.func 36) #[] #[.pointer (some ⟨p7, 0, none⟩)]] w (RowsRet w (changeF rs n ep f)) := by
  unfold changeF
  obtain ⟨i, t, hp⟩ : ∃ i t, placeN (rs.map (·.client)) n = (i, t) := ⟨_, _, rfl⟩
  rw [hp]
  cases t
  · exact changed_none_for rs A c n ep p7 f w hr hn n1 n2 e1 e2 hclo i hp (hf _ (.inr rfl))
  · obtain ⟨hil, _⟩ := placeN_true _ _ hp
    rw [List.length_map] at hil
    simp only [Bool.true_eq_false, if_false]
    rw [List.getElem?_eq_getElem hil]
    simp only
    by_cases he : rs[i].epoch = ep
    · rw [if_pos he]
      exact changed_same_for rs A c n ep p7 f w hr hn n1 n2 e1 e2 hclo i hp rs[i] (List.getElem?_eq_getElem hil) he (hl _ (List.getElem_mem _)) (hf _ (.inl (List.getElem_mem _)))
    · rw [if_neg he]
      exact changed_other_for rs A c n ep p7 f w hr hn n1 n2 e1 e2 hclo i hp rs[i] (List.getElem?_eq_getElem hil) he (hf _ (.inr rfl))
end Go.Proofs.Ythnajmfbomedlaa
