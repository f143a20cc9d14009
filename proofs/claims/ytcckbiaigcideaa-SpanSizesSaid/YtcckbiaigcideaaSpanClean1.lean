/- span.Clean's closure: what it does with a span that is told: passes it over, joins it to the last, or lays it behind. -/
import Derived.Test.YtcckbiaigcideaaSpanSort
import Derived.Test.YtcckbiaigcideaaSpanBoth
import Derived.Test.YtcckbiaigcideaaLast
set_option linter.unusedVariables false
set_option linter.unusedSimpArgs false
namespace Go.Proofs.Ytcckbiaigcideaa
open Go.RowKit Copyhold

theorem run_store_complex {P : Program} {w : World} {a : Addr} {m : Mode} (k : FloatKind) (x y : Nat) : (store a (.complex k x y) m).run P w = stored P w a (.complex k x y) m := run_store P w a _ m rfl
attribute [local go_sem] run_store_complex

theorem owns_setFar {w : World} {base : Nat} {e : TypeId} {k : Nat} {v : Value} {n : Nat} {xs : List Value} (h : w.ownsRow base e k v n xs) (p : Addr) (u : Value) (hp : v.ownBlock ≠ some p.block) : (w.setCell p u).ownsRow base e k v n xs := by
  refine ⟨h.1, ?_⟩
  rcases h.2 with h' | ⟨g, cap, cur, rfl, hg, hgg, r⟩
  · exact .inl h'
  · exact .inr ⟨g, cap, cur, rfl, hg, by rw [heap_setCell_far _ _ _ _ (fun e => hp (by rw [← e]; rfl))]; exact hgg, r⟩
theorem owns_succ {W : World} {base : Nat} {e : TypeId} {size : Nat} {v : Value} {k : Nat} {xs : List Value} (h : W.ownsRow base e size v (k + 1) xs) : ∃ g cap, v = .slice (some ⟨g, 0, none⟩) (k + 1) cap ∧ base ≤ g := by
  rcases h.2 with ⟨_, h0⟩ | ⟨g, cap, cur, rfl, hb, _⟩
  · omega
  · exact ⟨g, cap, rfl, hb⟩
theorem below_set {B : Nat} {a w : World} (h : Below B a w) (p : Addr) (u : Value) (hp : B ≤ p.block) : Below B a (w.setCell p u) := h.setCell hp u
theorem sl_one1 (w : World) (x : Value) (t : TypeId) : Sl (w.alloc (.cells #[x] t)) 1 (.slice (some ⟨w.heap.size, 0, none⟩) 1 1) 1 [x] :=
  ⟨_, 1, rfl, Nat.le_refl _, by simp, fun _ => ⟨w.heap.size, 0, rfl, by simp, fun j y hj => by
    rw [Nat.zero_add, cell_new]
    simpa using hj⟩⟩

/-- what is laid so far, in its box -/
structure Box3 (h : Nat) (w3 : World) (bo : Nat) (A : Option Addr) (c : Nat) (out : List (Nat × Nat)) (W : World) : Prop where
  own : W.ownsRow h 24 1 (.slice A out.length c) out.length (out.map spV)
  ne : (Value.slice A out.length c).ownBlock ≠ some bo
  cell : W.cell? ⟨bo, 0, none⟩ = some (.slice A out.length c)
  free : W.frozen? ⟨bo, 0, none⟩ = false
  below : Below h w3 W
  hbo : h ≤ bo
theorem Box3.drew {h : Nat} {w3 : World} {bo : Nat} {A : Option Addr} {c : Nat} {out : List (Nat × Nat)} {W : World} (b : Box3 h w3 bo A c out W) : Box3 h w3 bo A c out W.drew := ⟨b.own, b.ne, b.cell, b.free, below_dn b.below 1, b.hbo⟩
/-- a closure's answer -/
def Turn3 (h : Nat) (w3 : World) (bo : Nat) (out : List (Nat × Nat)) (e : Ending) (w' : World) : Prop := e = .returned (.bool true) ∧ ∃ A c, Box3 h w3 bo A c out w'

theorem turn_skip (a : Nat) (bo : Nat) (w : World) : Calls Try.prog 39 #[.int .i64 a, .int .i64 ((a : Int) + (0 : Nat)), .pointer (some ⟨bo, 0, none⟩)] w fun e w' => e = .returned (.bool true) ∧ w = w' := by
  have he : ((a : Int) == (a : Int) + (0 : Nat)) = true := by simp
  go_enter Try.func39, Try.ntmps39
  go_wp2_with fail
  go_ret
  exact ⟨rfl, rfl⟩

/-- behind the append: the box holds the longer row -/
theorem box_app {h : Nat} {w3 : World} {bo : Nat} {A A' : Option Addr} {c c' : Nat} {out : List (Nat × Nat)} {W W1 w' : World} (p : Nat × Nat) (b : Box3 h w3 bo A c out W) (h3 : h ≤ w3.heap.size) (hbl : bo < W.heap.size) (hW1 : Below W.heap.size W W1)
    (ho : w'.ownsRow h 24 1 (.slice A' (out.length + 1) c') (out.length + 1) (out.map spV ++ [spV p])) (hgr : W1.grownBy w' (Value.slice A out.length c).ownBlock)
    (hbk : (Value.slice A' (out.length + 1) c').ownBlock = (Value.slice A out.length c).ownBlock ∨ (Value.slice A' (out.length + 1) c').ownBlock = some W1.heap.size) :
    w'.cell? ⟨bo, 0, none⟩ = some (.slice A out.length c) ∧ w'.frozen? ⟨bo, 0, none⟩ = false ∧ Box3 h w3 bo A' c' (out ++ [p]) (w'.setCell ⟨bo, 0, none⟩ (.slice A' (out.length + 1) c')) := by
  have hs := hW1.size
  have hblk : w'.heap[bo]? = W.heap[bo]? := by rw [hgr.block bo (by omega) (fun e => b.ne e.symm), hW1.block bo hbl]
  have hc : w'.cell? ⟨bo, 0, none⟩ = some (.slice A out.length c) := (World.cell?_of_block hblk).trans b.cell
  have hf : w'.frozen? ⟨bo, 0, none⟩ = false := (World.frozen?_of_block hblk).trans b.free
  have hne : (Value.slice A' (out.length + 1) c').ownBlock ≠ some bo := by
    rcases hbk with e | e
    · rw [e]
      exact b.ne
    · rw [e]
      intro e2
      injection e2 with e2
      omega
  refine ⟨hc, hf, ?_, ?_, ?_, ?_, ?_, b.hbo⟩
  · rw [List.length_append, List.map_append]
    exact owns_setFar ho _ _ hne
  · rw [List.length_append]
    exact hne
  · rw [World.cell?_setCell_same w' ⟨bo, 0, none⟩ _ hc, List.length_append]
    rfl
  · simp [go_sem, hf]
  · refine below_set ?_ _ _ b.hbo
    exact (b.below.trans (hW1.mono (Nat.le_trans h3 b.below.size))).grown hgr (Nat.le_trans h3 (Nat.le_trans b.below.size hs)) (fun g hg => (own_block_ge b.own g hg).1)

set_option maxRecDepth 100000 in
set_option maxHeartbeats 4000000 in
theorem turn_push0 (a b h bo : Nat) (w3 : World) (A : Option Addr) (c : Nat) (WR : World) (hB : Box3 h w3 bo A c [] WR) (h3 : h ≤ w3.heap.size) (hbl : bo < WR.heap.size) (hb0 : b ≠ 0) (hab : a + b ≤ 1099511627776) :
    Calls Try.prog 39 #[.int .i64 a, .int .i64 ((a : Int) + b), .pointer (some ⟨bo, 0, none⟩)] WR (Turn3 h w3 bo ([] ++ [(a, b)])) := by
  have he : ((a : Int) == (a : Int) + b) = false := by rw [beq_eq_false_iff_ne]; omega
  have hBC : WR.cell? ⟨bo, 0, none⟩ = some (.slice A 0 c) := hB.cell
  have HB := Lib.hid hB
  clear hB
  go_enter Try.func39, Try.ntmps39
  go_wp2_with fail
  refine wp_region_z (S := fun V => V.cell? ⟨bo, 0, none⟩ = some (.slice A 0 c)) 8 (by kernel_rfl) (hBC) (fun hHeld => ?_)
  refine wpAnyZ_take (i := 0) (v := ?_) rfl (by kernel_rfl) (fun _ _ _ h => h) (Or.inl ⟨by rfl, ?_⟩) (by assumption) ?_
  rotate_left
  · intro w hSw
    try dsimp only at hSw
    go_simp
    try with_reducible rfl
  rotate_left
  try simp only [Act.put, List.setIfInBounds_toArray, List.set_cons_zero, List.set_cons_succ, List.getElem_toArray, List.getElem_cons_zero, List.getElem_cons_succ]
  refine wpAnyZ_take (i := 1) (v := ?_) rfl (by kernel_rfl) (fun _ _ _ h => h) (Or.inl ⟨by rfl, ?_⟩) (by assumption) ?_
  rotate_left
  · intro w hSw
    try dsimp only at hSw
    go_simp
    try with_reducible rfl
  rotate_left
  try simp only [Act.put, List.setIfInBounds_toArray, List.set_cons_zero, List.set_cons_succ, List.getElem_toArray, List.getElem_cons_zero, List.getElem_cons_succ]
  refine wpAnyZ_take (i := 2) (v := ?_) rfl (by kernel_rfl) (fun _ _ _ h => h) (Or.inl ⟨by rfl, ?_⟩) (by assumption) ?_
  rotate_left
  · intro w hSw
    try dsimp only at hSw
    go_simp
    try with_reducible rfl
  rotate_left
  try simp only [Act.put, List.setIfInBounds_toArray, List.set_cons_zero, List.set_cons_succ, List.getElem_toArray, List.getElem_cons_zero, List.getElem_cons_succ]
  refine wpAnyZ_take (i := 3) (v := ?_) rfl (by kernel_rfl) (fun _ _ _ h => h) (Or.inl ⟨by rfl, ?_⟩) (by assumption) ?_
  rotate_left
  · intro w hSw
    try dsimp only at hSw
    go_simp
    try with_reducible rfl
  rotate_left
  try simp only [Act.put, List.setIfInBounds_toArray, List.set_cons_zero, List.set_cons_succ, List.getElem_toArray, List.getElem_cons_zero, List.getElem_cons_succ]
  refine wpAnyZ_take (i := 4) (v := ?_) rfl (by kernel_rfl) (fun _ _ _ h => h) (Or.inl ⟨by rfl, ?_⟩) (by assumption) ?_
  rotate_left
  · intro w hSw
    try dsimp only at hSw
    go_simp
    try with_reducible rfl
  rotate_left
  try simp only [Act.put, List.setIfInBounds_toArray, List.set_cons_zero, List.set_cons_succ, List.getElem_toArray, List.getElem_cons_zero, List.getElem_cons_succ]
  refine wpAnyZ_one (i := 5) (by kernel_rfl) rfl (fun K hK => ?_)
  rw [if_pos (by rfl)]
  go_wp2_with fail
  refine (span_lay' _ _ a b _ rfl (by omega)).mono ?_
  rintro e w7 ⟨rfl, rfl⟩
  refine hK.out _ _ (hHeld) (fun hHeld => ?_)
  clear hK K
  try simp only [Act.put, List.setIfInBounds_toArray, List.set_cons_zero, List.set_cons_succ, List.getElem_toArray, List.getElem_cons_zero, List.getElem_cons_succ]
  refine wpAnyZ_one (i := 6) (by kernel_rfl) rfl (fun K hK => ?_)
  rw [if_pos (by rfl)]
  go_wp2_with fail
  refine hK.out _ _ (cell_alloc _ hHeld) (fun hHeld => ?_)
  clear hK K
  try simp only [Act.put, List.setIfInBounds_toArray, List.set_cons_zero, List.set_cons_succ, List.getElem_toArray, List.getElem_cons_zero, List.getElem_cons_succ]
  obtain ⟨v', w', hrun, ho, hgr, hbk⟩ := append_sl spElem (WR.drew.alloc (.cells #[.complex .f64 (fl a) (fl b)] 24)) h 45 (.slice A 0 c) 0 [] ((show WR.drew.ownsRow _ _ _ _ _ _ from HB.out.own).alloc _) _ 1 [.complex .f64 (fl a) (fl b)] (sl_one1 _ _ _) (fun u hu => by simp at hu; subst hu; rfl) (by unfold maxLen; omega) (by omega) (by have := HB.out.below.size; simp; omega)
  obtain ⟨A', c', rfl, -, -⟩ := (Sl.of_owns ho).shape
  obtain ⟨x6, f6, bx⟩ := box_app (a, b) HB.out h3 (by exact hbl) (below_dn (Below.refl _ _) 1 |>.alloc (by simp) _) ho hgr hbk
  have HBX := Lib.hid bx
  clear bx ho hgr hbk
  refine wpAnyZ_one (i := 7) (by kernel_rfl) rfl (fun K hK => ?_)
  refine step_append_run rfl _ _ _ rfl _ _ _ _ rfl rfl hrun ?_
  refine hK.out _ _ (x6) (fun hHeld => ?_)
  clear hK K
  try simp only [Act.put, List.setIfInBounds_toArray, List.set_cons_zero, List.set_cons_succ, List.getElem_toArray, List.getElem_cons_zero, List.getElem_cons_succ]
  refine wpAnyZ_last (by kernel_rfl) rfl (fun K hK => ?_)
  rw [if_pos (by rfl)]
  go_wp2_with fail
  refine hK.out _ _ ?_
  clear hK K
  try simp only [Act.put, List.setIfInBounds_toArray, List.set_cons_zero, List.set_cons_succ, List.getElem_toArray, List.getElem_cons_zero, List.getElem_cons_succ]
  refine wpAnyZ_done (by kernel_rfl) ?_ _
  obtain ⟨Wz, hWz⟩ : ∃ Wz, Wz = w'.setCell ⟨bo, 0, none⟩ (.slice A' (0 + 1) c') := ⟨_, rfl⟩
  rw [← hWz]
  have HZ := Lib.hid hWz
  clear hWz hHeld x6 f6 hrun
  go_wp2_with fail
  go_ret
  refine ⟨rfl, A', c', ?_⟩
  rw [HZ.out]
  exact HBX.out

set_option maxRecDepth 100000 in
set_option maxHeartbeats 4000000 in
theorem turn_push (a b h bo : Nat) (w3 : World) (A : Option Addr) (c : Nat) (pre : List (Nat × Nat)) (l : Nat × Nat) (WR : World) (hB : Box3 h w3 bo A c (pre ++ [l]) WR) (h3 : h ≤ w3.heap.size) (hbl : bo < WR.heap.size) (hb0 : b ≠ 0) (hab : a + b ≤ 1099511627776) (hn : pre.length ≤ 1000) (hl : l.1 + l.2 ≤ 1099511627776) (hlt : l.1 + l.2 < a) :
    Calls Try.prog 39 #[.int .i64 a, .int .i64 ((a : Int) + b), .pointer (some ⟨bo, 0, none⟩)] WR (Turn3 h w3 bo ((pre ++ [l]) ++ [(a, b)])) := by
  have he : ((a : Int) == (a : Int) + b) = false := by rw [beq_eq_false_iff_ne]; omega
  obtain ⟨N, hN⟩ : ∃ N, N = pre.length := ⟨_, rfl⟩
  have hlen : (pre ++ [l]).length = N + 1 := by rw [hN]; simp
  have hown := hB.own
  have hBC := hB.cell
  rw [hlen] at hown hBC
  rw [← hN] at hn
  obtain ⟨g, c0, hA, hgh⟩ := owns_succ hown
  injection hA with hA _ hc0
  subst hA hc0
  have hcl : WR.cell? ⟨g, N, none⟩ = some (.complex .f64 (fl l.1) (fl l.2)) := by
    rw [hown.cellAt N (by omega), List.map_append, List.getElem?_append_right (by simp [hN]), List.length_map, hN, Nat.sub_self]
    rfl
  have hfr := hown.frozenAt N
  have hNN : ((N + 1 : Nat) : Int) - 1 = (N : Int) := by omega
  have hNlt : (N : Int) < (N : Int) + 1 := by omega
  have HLEN := Lib.hid hlen
  have HOWN := Lib.hid hown
  have HB := Lib.hid hB
  clear hN hlen hown hB
  go_enter Try.func39, Try.ntmps39
  go_wp2_with fail
  refine (span_ends l.1 l.2 _ (by omega) (by omega)).mono ?_
  rintro e w1 ⟨rfl, rfl⟩
  go_wp2_with fail
  refine wp_region_z (S := fun V => V.cell? ⟨bo, 0, none⟩ = some (.slice (some ⟨g, 0, none⟩) (N + 1) c)) 8 (by kernel_rfl) (hBC) (fun hHeld => ?_)
  refine wpAnyZ_take (i := 0) (v := ?_) rfl (by kernel_rfl) (fun _ _ _ h => h) (Or.inl ⟨by rfl, ?_⟩) (by assumption) ?_
  rotate_left
  · intro w hSw
    try dsimp only at hSw
    go_simp
    try with_reducible rfl
  rotate_left
  try simp only [Act.put, List.setIfInBounds_toArray, List.set_cons_zero, List.set_cons_succ, List.getElem_toArray, List.getElem_cons_zero, List.getElem_cons_succ]
  refine wpAnyZ_take (i := 1) (v := ?_) rfl (by kernel_rfl) (fun _ _ _ h => h) (Or.inl ⟨by rfl, ?_⟩) (by assumption) ?_
  rotate_left
  · intro w hSw
    try dsimp only at hSw
    go_simp
    try with_reducible rfl
  rotate_left
  try simp only [Act.put, List.setIfInBounds_toArray, List.set_cons_zero, List.set_cons_succ, List.getElem_toArray, List.getElem_cons_zero, List.getElem_cons_succ]
  refine wpAnyZ_take (i := 2) (v := ?_) rfl (by kernel_rfl) (fun _ _ _ h => h) (Or.inl ⟨by rfl, ?_⟩) (by assumption) ?_
  rotate_left
  · intro w hSw
    try dsimp only at hSw
    go_simp
    try with_reducible rfl
  rotate_left
  try simp only [Act.put, List.setIfInBounds_toArray, List.set_cons_zero, List.set_cons_succ, List.getElem_toArray, List.getElem_cons_zero, List.getElem_cons_succ]
  refine wpAnyZ_take (i := 3) (v := ?_) rfl (by kernel_rfl) (fun _ _ _ h => h) (Or.inl ⟨by rfl, ?_⟩) (by assumption) ?_
  rotate_left
  · intro w hSw
    try dsimp only at hSw
    go_simp
    try with_reducible rfl
  rotate_left
  try simp only [Act.put, List.setIfInBounds_toArray, List.set_cons_zero, List.set_cons_succ, List.getElem_toArray, List.getElem_cons_zero, List.getElem_cons_succ]
  refine wpAnyZ_take (i := 4) (v := ?_) rfl (by kernel_rfl) (fun _ _ _ h => h) (Or.inl ⟨by rfl, ?_⟩) (by assumption) ?_
  rotate_left
  · intro w hSw
    try dsimp only at hSw
    go_simp
    try with_reducible rfl
  rotate_left
  try simp only [Act.put, List.setIfInBounds_toArray, List.set_cons_zero, List.set_cons_succ, List.getElem_toArray, List.getElem_cons_zero, List.getElem_cons_succ]
  refine wpAnyZ_one (i := 5) (by kernel_rfl) rfl (fun K hK => ?_)
  rw [if_pos (by rfl)]
  go_wp2_with fail
  refine (span_lay' _ _ a b _ rfl (by omega)).mono ?_
  rintro e w7 ⟨rfl, rfl⟩
  refine hK.out _ _ (hHeld) (fun hHeld => ?_)
  clear hK K
  try simp only [Act.put, List.setIfInBounds_toArray, List.set_cons_zero, List.set_cons_succ, List.getElem_toArray, List.getElem_cons_zero, List.getElem_cons_succ]
  refine wpAnyZ_one (i := 6) (by kernel_rfl) rfl (fun K hK => ?_)
  rw [if_pos (by rfl)]
  go_wp2_with fail
  refine hK.out _ _ (cell_alloc _ hHeld) (fun hHeld => ?_)
  clear hK K
  try simp only [Act.put, List.setIfInBounds_toArray, List.set_cons_zero, List.set_cons_succ, List.getElem_toArray, List.getElem_cons_zero, List.getElem_cons_succ]
  obtain ⟨v', w', hrun, ho, hgr, hbk⟩ := append_sl spElem (WR.drew.alloc (.cells #[.complex .f64 (fl a) (fl b)] 24)) h 45 (.slice (some ⟨g, 0, none⟩) (N + 1) c) (N + 1) _ ((show WR.drew.ownsRow _ _ _ _ _ _ from HOWN.out).alloc _) _ 1 [.complex .f64 (fl a) (fl b)] (sl_one1 _ _ _) (fun u hu => by simp at hu; subst hu; rfl) (by unfold maxLen; omega) (by omega) (by have := HB.out.below.size; simp; omega)
  obtain ⟨A', c', rfl, -, -⟩ := (Sl.of_owns ho).shape
  rw [← HLEN.out] at ho hgr hbk
  obtain ⟨x6, f6, bx⟩ := box_app (a, b) HB.out h3 (by exact hbl) (below_dn (Below.refl _ _) 1 |>.alloc (by simp) _) ho hgr hbk
  rw [HLEN.out] at x6 bx
  have HBX := Lib.hid bx
  clear bx ho hgr hbk
  refine wpAnyZ_one (i := 7) (by kernel_rfl) rfl (fun K hK => ?_)
  refine step_append_run rfl _ _ _ rfl _ _ _ _ rfl rfl hrun ?_
  refine hK.out _ _ (x6) (fun hHeld => ?_)
  clear hK K
  try simp only [Act.put, List.setIfInBounds_toArray, List.set_cons_zero, List.set_cons_succ, List.getElem_toArray, List.getElem_cons_zero, List.getElem_cons_succ]
  refine wpAnyZ_last (by kernel_rfl) rfl (fun K hK => ?_)
  rw [if_pos (by rfl)]
  go_wp2_with fail
  refine hK.out _ _ ?_
  clear hK K
  try simp only [Act.put, List.setIfInBounds_toArray, List.set_cons_zero, List.set_cons_succ, List.getElem_toArray, List.getElem_cons_zero, List.getElem_cons_succ]
  refine wpAnyZ_done (by kernel_rfl) ?_ _
  obtain ⟨Wz, hWz⟩ : ∃ Wz, Wz = w'.setCell ⟨bo, 0, none⟩ (.slice A' (N + 1 + 1) c') := ⟨_, rfl⟩
  rw [← hWz]
  have HZ := Lib.hid hWz
  clear hWz hHeld x6 f6 hrun
  go_wp2_with fail
  go_ret
  refine ⟨rfl, A', c', ?_⟩
  rw [HZ.out]
  exact HBX.out

set_option maxRecDepth 100000 in
set_option maxHeartbeats 4000000 in
theorem turn_join (a b h bo : Nat) (w3 : World) (A : Option Addr) (c : Nat) (pre : List (Nat × Nat)) (l : Nat × Nat) (WR : World) (hB : Box3 h w3 bo A c (pre ++ [l]) WR) (h3 : h ≤ w3.heap.size) (hbl : bo < WR.heap.size) (hb0 : b ≠ 0) (hab : a + b ≤ 1099511627776) (hn : pre.length ≤ 1000) (hl : l.1 + l.2 ≤ 1099511627776) (hle : a ≤ l.1 + l.2) :
    Calls Try.prog 39 #[.int .i64 a, .int .i64 ((a : Int) + b), .pointer (some ⟨bo, 0, none⟩)] WR (Turn3 h w3 bo (pre ++ [(l.1, max (l.1 + l.2) (a + b) - l.1)])) := by
  have he : ((a : Int) == (a : Int) + b) = false := by rw [beq_eq_false_iff_ne]; omega
  obtain ⟨N, hN⟩ : ∃ N, N = pre.length := ⟨_, rfl⟩
  have hlen : (pre ++ [l]).length = N + 1 := by rw [hN]; simp
  have hown := hB.own
  have hBC := hB.cell
  rw [hlen] at hown hBC
  rw [← hN] at hn
  obtain ⟨g, c0, hA, hgh⟩ := owns_succ hown
  injection hA with hA _ hc0
  subst hA hc0
  have hcl : WR.cell? ⟨g, N, none⟩ = some (.complex .f64 (fl l.1) (fl l.2)) := by
    rw [hown.cellAt N (by omega), List.map_append, List.getElem?_append_right (by simp [hN]), List.length_map, hN, Nat.sub_self]
    rfl
  have hfr := hown.frozenAt N
  have hgb : g ≠ bo := fun e => hB.ne (by rw [e]; rfl)
  have HBS : Hid (∀ u : Value, (WR.drew.setCell ⟨g, N, none⟩ u).cell? ⟨bo, 0, none⟩ = some (.slice (some ⟨g, 0, none⟩) (N + 1) c)) := Lib.hid (fun u => by
    exact (World.cell?_of_block (w := WR.drew) (a := ⟨bo, 0, none⟩) (heap_setCell_far WR.drew ⟨g, N, none⟩ u bo (fun e => hgb e.symm))).trans hBC)
  have HJ : Hid (Box3 h w3 bo (some ⟨g, 0, none⟩) c (pre ++ [(l.1, max (l.1 + l.2) (a + b) - l.1)]) (WR.drew.setCell ⟨g, N, none⟩ (.complex .f64 (fl l.1) (fl (max (l.1 + l.2) (a + b) - l.1))))) := by
    have hl2 : (pre ++ [(l.1, max (l.1 + l.2) (a + b) - l.1)]).length = N + 1 := by rw [hN]; simp
    have hst := (World.ownsRow.stored hown N (.complex .f64 (fl l.1) (fl (max (l.1 + l.2) (a + b) - l.1))))
    have hset : ((pre ++ [l]).map spV).set N (.complex .f64 (fl l.1) (fl (max (l.1 + l.2) (a + b) - l.1))) = (pre ++ [(l.1, max (l.1 + l.2) (a + b) - l.1)]).map spV := by
      rw [List.map_append, List.map_append, List.set_append_right _ _ (by simp [hN]), List.length_map, hN, Nat.sub_self]
      rfl
    rw [hset] at hst
    refine ⟨?_, ?_, ?_, ?_, ?_, hB.hbo⟩
    · rw [hl2]
      exact hst.1
    · rw [hl2]
      exact fun e => hgb (by injection e)
    · rw [hl2]
      exact HBS.out _
    · exact (World.frozen?_of_block (w := WR.drew) (a := ⟨bo, 0, none⟩) (heap_setCell_far WR.drew ⟨g, N, none⟩ _ bo (fun e => hgb e.symm))).trans hB.free
    · exact below_set (below_dn hB.below 1) _ _ hgh
  have hNN : ((N + 1 : Nat) : Int) - 1 = (N : Int) := by omega
  have hNlt : (N : Int) < (N : Int) + 1 := by omega
  have HLEN := Lib.hid hlen
  have HB := Lib.hid hB
  clear hN hlen hown hB
  go_enter Try.func39, Try.ntmps39
  go_wp2_with fail
  refine (span_ends l.1 l.2 _ (by omega) (by omega)).mono ?_
  rintro e w1 ⟨rfl, rfl⟩
  go_wp2_with fail
  refine wp_region_held_drew (S := fun V => V.cell? ⟨bo, 0, none⟩ = some (.slice (some ⟨g, 0, none⟩) (N + 1) c)) (by kernel_rfl) (hBC) (fun hHeld => ?_)
  refine wpAnyH_take (i := 0) (v := ?_) rfl (by kernel_rfl) (by kernel_rfl) (by kernel_rfl) (fun _ _ _ h => h) (Or.inl ⟨by rfl, ?_⟩) (by assumption) ?_
  rotate_left
  · intro w hSw
    try dsimp only at hSw
    go_simp
    try with_reducible rfl
  rotate_left
  try simp only [Act.put, List.setIfInBounds_toArray, List.set_cons_zero, List.set_cons_succ, List.getElem_toArray, List.getElem_cons_zero, List.getElem_cons_succ]
  refine wpAnyH_take (i := 1) (v := ?_) rfl (by kernel_rfl) (by kernel_rfl) (by kernel_rfl) (fun _ _ _ h => h) (Or.inl ⟨by rfl, ?_⟩) (by assumption) ?_
  rotate_left
  · intro w hSw
    try dsimp only at hSw
    go_simp
    try with_reducible rfl
  rotate_left
  try simp only [Act.put, List.setIfInBounds_toArray, List.set_cons_zero, List.set_cons_succ, List.getElem_toArray, List.getElem_cons_zero, List.getElem_cons_succ]
  refine wpAnyH_take (i := 2) (v := ?_) rfl (by kernel_rfl) (by kernel_rfl) (by kernel_rfl) (fun _ _ _ h => h) (Or.inl ⟨by rfl, ?_⟩) (by assumption) ?_
  rotate_left
  · intro w hSw
    try dsimp only at hSw
    go_simp
    try with_reducible rfl
  rotate_left
  try simp only [Act.put, List.setIfInBounds_toArray, List.set_cons_zero, List.set_cons_succ, List.getElem_toArray, List.getElem_cons_zero, List.getElem_cons_succ]
  refine wpAnyH_take (i := 3) (v := ?_) rfl (by kernel_rfl) (by kernel_rfl) (by kernel_rfl) (fun _ _ _ h => h) (Or.inl ⟨by rfl, ?_⟩) (by assumption) ?_
  rotate_left
  · intro w hSw
    try dsimp only at hSw
    go_simp
    try with_reducible rfl
  rotate_left
  try simp only [Act.put, List.setIfInBounds_toArray, List.set_cons_zero, List.set_cons_succ, List.getElem_toArray, List.getElem_cons_zero, List.getElem_cons_succ]
  refine wpAnyH_take (i := 4) (v := ?_) rfl (by kernel_rfl) (by kernel_rfl) (by kernel_rfl) (fun _ _ _ h => h) (Or.inl ⟨by rfl, ?_⟩) (by assumption) ?_
  rotate_left
  · intro w hSw
    try dsimp only at hSw
    go_simp
    try with_reducible rfl
  rotate_left
  try simp only [Act.put, List.setIfInBounds_toArray, List.set_cons_zero, List.set_cons_succ, List.getElem_toArray, List.getElem_cons_zero, List.getElem_cons_succ]
  refine wpAnyH_take (i := 5) (v := ?_) rfl (by kernel_rfl) (by kernel_rfl) (by kernel_rfl) (fun _ _ _ h => h) (Or.inl ⟨by rfl, ?_⟩) (by assumption) ?_
  rotate_left
  · intro w hSw
    try dsimp only at hSw
    go_simp
    try with_reducible rfl
  rotate_left
  try simp only [Act.put, List.setIfInBounds_toArray, List.set_cons_zero, List.set_cons_succ, List.getElem_toArray, List.getElem_cons_zero, List.getElem_cons_succ]
  refine wpAnyH_take (i := 6) (v := ?_) rfl (by kernel_rfl) (by kernel_rfl) (by kernel_rfl) (fun _ _ _ h => h) (Or.inl ⟨by rfl, ?_⟩) (by assumption) ?_
  rotate_left
  · intro w hSw
    try dsimp only at hSw
    go_simp
    try with_reducible rfl
  rotate_left
  try simp only [Act.put, List.setIfInBounds_toArray, List.set_cons_zero, List.set_cons_succ, List.getElem_toArray, List.getElem_cons_zero, List.getElem_cons_succ]
  refine wpAnyH_take (i := 7) (v := ?_) rfl (by kernel_rfl) (by kernel_rfl) (by kernel_rfl) (fun _ _ _ h => h) (Or.inl ⟨by rfl, ?_⟩) (by assumption) ?_
  rotate_left
  · intro w hSw
    try dsimp only at hSw
    go_simp
    try with_reducible rfl
  rotate_left
  try simp only [Act.put, List.setIfInBounds_toArray, List.set_cons_zero, List.set_cons_succ, List.getElem_toArray, List.getElem_cons_zero, List.getElem_cons_succ]
  refine wpAnyH_ready (rs := [8]) (by kernel_rfl) (by simp) ?_
  refine (AllReadyH.cons rfl (fun K hK => ?_) AllReadyH.nil)
  rw [if_pos (by rfl)]
  go_wp2_with fail
  refine (span_lay' _ _ l.1 (max (l.1 + l.2) (a + b) - l.1) _ rfl (by omega)).mono ?_
  rintro e w7 ⟨rfl, rfl⟩
  refine hK.out _ _ hHeld (fun _ => ?_)
  clear hK K
  try simp only [Act.put, List.setIfInBounds_toArray, List.set_cons_zero, List.set_cons_succ, List.getElem_toArray, List.getElem_cons_zero, List.getElem_cons_succ]
  refine wpAnyH_take (i := 9) (v := ?_) rfl (by kernel_rfl) (by kernel_rfl) (by kernel_rfl) (fun _ _ _ h => h) (Or.inl ⟨by rfl, ?_⟩) (by assumption) ?_
  rotate_left
  · intro w hSw
    try dsimp only at hSw
    go_simp
    try with_reducible rfl
  rotate_left
  try simp only [Act.put, List.setIfInBounds_toArray, List.set_cons_zero, List.set_cons_succ, List.getElem_toArray, List.getElem_cons_zero, List.getElem_cons_succ]
  refine wpAnyH_ready (rs := [10]) (by kernel_rfl) (by simp) ?_
  refine (AllReadyH.cons rfl (fun K hK => ?_) AllReadyH.nil)
  rw [if_pos (by rfl)]
  go_wp2_with fail
  refine hK.out _ _ (HBS.out _) (fun _ => ?_)
  clear hK K
  try simp only [Act.put, List.setIfInBounds_toArray, List.set_cons_zero, List.set_cons_succ, List.getElem_toArray, List.getElem_cons_zero, List.getElem_cons_succ]
  refine wpAnyH_done (by kernel_rfl) ?_ _
  obtain ⟨Wz, hWz⟩ : ∃ Wz, Wz = (WR.setCell ⟨g, N, none⟩ (.complex .f64 (fl l.1) (fl (max (l.1 + l.2) (a + b) - l.1)))).drew := ⟨_, rfl⟩
  rw [← hWz]
  have HZ := Lib.hid hWz
  clear hWz hHeld
  go_wp2_with fail
  go_ret
  refine ⟨rfl, some ⟨g, 0, none⟩, c, ?_⟩
  rw [HZ.out]
  exact HJ.out
end Go.Proofs.Ytcckbiaigcideaa

