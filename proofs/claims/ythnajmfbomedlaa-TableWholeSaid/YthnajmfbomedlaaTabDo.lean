/- table.Decide: it answers as the document says; old memory is as it was. -/
import Derived.Test.YthnajmfbomedlaaTabChg
set_option linter.unusedVariables false
set_option linter.unusedSimpArgs false
namespace Go.Proofs.Ythnajmfbomedlaa
open Go.RowKit Copyhold

/-- what is decided -/
def putD (sq : Int) (yes : Bool) (r : TRow) : TRow := ⟨r.client, r.epoch, r.done, insD r.l sq yes⟩
def fullF (rs : List TRow) (n ep sq : Int) : Bool := (!(placeN (rs.map (·.client)) n).2 && decide (64 ≤ rs.length)) || (match (ownF rs n ep sq).1 with | none => false | some r => decide (256 ≤ r.l.length))
def decideF (rs : List TRow) (n ep sq : Int) (yes : Bool) : List TRow × Bool × Int :=
  if (askF rs n ep sq).2 ≠ 6 then (rs, askF rs n ep sq)
  else if fullF rs n ep sq = true then (rs, false, 12)
  else (changeF rs n ep (putD sq yes), yes, 0)

def DecRet (w : World) (r : List TRow × Bool × Int) (e : Ending) (w' : World) : Prop := ∃ A c, e = .returned (.tuple #[.slice A r.1.length c, .bool r.2.1, .int .i64 r.2.2]) ∧ RowsIn w' (.slice A r.1.length c) r.1 ∧ Below w.heap.size w w'

set_option maxRecDepth 100000 in
set_option maxHeartbeats 8000000 in
theorem table_Decide_was (rs : List TRow) (A : Option Addr) (c : Nat) (n ep sq : Int) (yes : Bool) (w : World) (hr : RowsIn w (.slice A rs.length c) rs) (hn : rs.length ≤ 100000) (n1 : -9223372036854775808 ≤ n) (n2 : n ≤ 9223372036854775807)
    (e1 : -9223372036854775808 ≤ ep) (e2 : ep ≤ 9223372036854775807) (s1 : -9223372036854775808 ≤ sq) (s2 : sq ≤ 9223372036854775807) (ha : (askF rs n ep sq).2 ≠ 6) :
    Calls Try.prog 16 #[.slice A rs.length c, .int .i64 n, .int .i64 ep, .int .i64 sq, .bool yes] w (DecRet w (rs, askF rs n ep sq)) := by
  obtain ⟨W0, hW0⟩ : ∃ W0, W0 = (w.alloc (.cells #[.int .i64 sq] 3)).alloc (.cells #[.bool yes] 4) := ⟨_, rfl⟩
  have hb0 : Below w.heap.size w W0 := by rw [hW0]; exact ((Below.refl _ _).alloc (Nat.le_refl _) _).alloc (by simp) _
  have HA := Lib.hid (table_Ask rs _ n ep sq W0 (hr.below hb0) (by omega) n1 n2 e1 e2 s1 s2)
  have HB0 := Lib.hid hb0
  have HR := Lib.hid hr
  have HW0 := Lib.hid hW0
  generalize askF rs n ep sq = a at *
  obtain ⟨a1, a2⟩ := a
  simp only at ha HA
  have hne : (a2 == 6) = false := by simpa using ha
  have hne2 : (a2 != 6) = true := by simpa using ha
  clear hW0 hb0 hr ha
  go_enter Try.func16, Try.ntmps16
  go_wp2_with fail
  rw [← HW0.out]
  refine HA.out.mono ?_
  rintro e w1 ⟨rfl, hb1⟩
  have HB1 := Lib.hid (below_trans HB0.out hb1 HB0.out.size)
  clear hb1
  go_wp2_with fail
  go_ret3
  exact ⟨A, c, rfl, HR.out.below HB1.out, HB1.out⟩

set_option maxRecDepth 100000 in
set_option maxHeartbeats 8000000 in
theorem table_Decide_none (rs : List TRow) (A : Option Addr) (c : Nat) (n ep sq : Int) (yes : Bool) (w : World) (hr : RowsIn w (.slice A rs.length c) rs) (hn : rs.length ≤ 100000) (hl : ∀ r ∈ rs, r.l.length ≤ 100000) (n1 : -9223372036854775808 ≤ n) (n2 : n ≤ 9223372036854775807)
    (e1 : -9223372036854775808 ≤ ep) (e2 : ep ≤ 9223372036854775807) (s1 : -9223372036854775808 ≤ sq) (s2 : sq ≤ 9223372036854775807) (ha : askF rs n ep sq = (false, 6)) (hown : (ownF rs n ep sq).1 = none) (b : Bool) (hb : fullF rs n ep sq = b) (t : Bool) (i : Nat) (hp : placeN (rs.map (·.client)) n = (i, t))
    (hf : ∀ r : TRow, r ∈ rs ∨ r = ⟨n, ep, 0, []⟩ → (putD sq yes r).l.length ≤ 8796093022207 ∧ i64ok (putD sq yes r).client ∧ i64ok (putD sq yes r).epoch ∧ i64ok (putD sq yes r).done) :
    Calls Try.prog 16 #[.slice A rs.length c, .int .i64 n, .int .i64 ep, .int .i64 sq, .bool yes] w (DecRet w (if b = true then (rs, false, 12) else (changeF rs n ep (putD sq yes), yes, 0))) := by
  obtain ⟨W0, hW0⟩ : ∃ W0, W0 = (w.alloc (.cells #[.int .i64 sq] 3)).alloc (.cells #[.bool yes] 4) := ⟨_, rfl⟩
  have hb0 : Below w.heap.size w W0 := by rw [hW0]; exact ((Below.refl _ _).alloc (Nat.le_refl _) _).alloc (by simp) _
  have x8 : W0.cell? ⟨w.heap.size, 0, none⟩ = some (.int .i64 sq) := by rw [hW0]; exact cell_alloc _ (cell_new _ _ _ 0)
  have x9 : W0.cell? ⟨w.heap.size + 1, 0, none⟩ = some (.bool yes) := by rw [hW0]; simp [go_sem]
  have HX := Lib.hid (And.intro x8 x9)
  have HA := Lib.hid (table_Ask rs _ n ep sq W0 (hr.below hb0) (by omega) n1 n2 e1 e2 s1 s2)
  rw [ha] at HA
  have HRO := Lib.hid (fun W (h : Below w.heap.size w W) => table_rowOf rs A c n W (hr.below h) (by omega) n1 n2)
  rw [hp] at HRO
  have HOW := Lib.hid (fun W (h : Below w.heap.size w W) => table_own rs _ n ep sq W (hr.below h) (by omega) n1 n2 e1 e2 s1 s2)
  have HOW2 := HOW.out
  unfold OwnR at HOW2
  rw [hown] at HOW2
  simp only at HOW2
  replace HOW := Lib.hid HOW2
  clear HOW2
  have HCH := Lib.hid (fun W (h : Below w.heap.size w W) (h8 : W.cell? ⟨w.heap.size, 0, none⟩ = some (.int .i64 sq)) (h9 : W.cell? ⟨w.heap.size + 1, 0, none⟩ = some (.bool yes)) => changed_dec rs A c n ep w.heap.size (w.heap.size + 1) (putD sq yes) W (hr.below h) hn hl n1 n2 e1 e2 (fun V r A c hV hs hl _ _ _ => decide_put r A c sq yes w.heap.size (w.heap.size + 1) V hs hl (cell_keep hV h8) (cell_keep hV h9) s1 s2) hf)
  have HB0 := Lib.hid hb0
  have HR := Lib.hid hr
  have HW0 := Lib.hid hW0
  have hfull : b = ((!t && decide (64 ≤ rs.length)) || false) := by rw [← hb]; unfold fullF; rw [hp, hown]
  have HFU := Lib.hid hfull
  have HRB := Lib.hid hb
  clear hW0 hb0 hr ha x8 x9 hb hf hfull hl
  cases b
  · rw [if_neg (by decide)]
    have hcs : t = true ∨ (t = false ∧ rs.length < 64) := by
      have h := HFU.out
      cases t
      · right; refine ⟨rfl, ?_⟩; simp at h; omega
      · exact .inl rfl
    rcases hcs with rfl | ⟨rfl, hl64⟩
    all_goals
      go_enter Try.func16, Try.ntmps16
      go_wp2_with fail
      rw [← HW0.out]
      refine HA.out.mono ?_
      rintro e w1 ⟨rfl, hb1⟩
      have HB1 := Lib.hid (below_trans HB0.out hb1 HB0.out.size)
      have x8 := cell_keep hb1 HX.out.1
      have x9 := cell_keep hb1 HX.out.2
      clear hb1
      go_wp2_with fail
      refine (HRO.out _ HB1.out).mono ?_
      rintro e w2 ⟨rfl, hb2⟩
      have HB2 := Lib.hid (below_trans HB1.out hb2 HB1.out.size)
      have y8 := cell_keep hb2 x8
      have y9 := cell_keep hb2 x9
      clear hb2 x8 x9
      go_wp2_with fail
      refine (HOW.out _ HB2.out).mono ?_
      rintro e w3 ⟨rfl, hb3⟩
      have HB3 := Lib.hid (below_trans HB2.out hb3 HB2.out.size)
      have z8 := cell_keep hb3 y8
      have z9 := cell_keep hb3 y9
      have hz8 := cell_lt z8
      have hz9 := cell_lt z9
      clear hb3 y8 y9
      go_wp2_with fail
      obtain ⟨W4, hW4⟩ : ∃ W4, W4 = w3.alloc (.cells #[.int .i64 0, .int .i64 0, .int .i64 0, .slice none 0 0] 63) := ⟨_, rfl⟩
      rw [← hW4]
      have b34 : Below w3.heap.size w3 W4 := by rw [hW4]; exact (Below.refl _ _).alloc (Nat.le_refl _) _
      have HB4 := Lib.hid (below_trans HB3.out b34 HB3.out.size)
      have u8 := cell_keep b34 z8
      have u9 := cell_keep b34 z9
      clear hW4 b34 z8 z9
      refine wp_region_held_drew (S := fun V => V.cell? ⟨w.heap.size, 0, none⟩ = some (.int .i64 sq) ∧ V.cell? ⟨w.heap.size + 1, 0, none⟩ = some (.bool yes)) (by kernel_rfl) (⟨u8, u9⟩) (fun hHeld => ?_)
      refine wpAnyH_take (i := 0) (v := ?_) rfl (by kernel_rfl) (by kernel_rfl) (by kernel_rfl) (fun _ _ _ h => h) (Or.inl ⟨by rfl, ?_⟩) (by assumption) ?_
      rotate_left
      · intro w hSw
        try dsimp only at hSw
        go_simp
        try with_reducible rfl
      rotate_left
      try simp only [Act.put, List.setIfInBounds_toArray, List.set_cons_zero, List.set_cons_succ, List.getElem_toArray, List.getElem_cons_zero, List.getElem_cons_succ]
      refine wpAnyH_take (i := 1) (v := ?_) rfl (by kernel_rfl) (by kernel_rfl) (by kernel_rfl) (fun _ _ _ h => h) (Or.inl ⟨by rfl, ?_⟩) (by assumption) ?_
      rotate_left
      · intro w hSw
        try dsimp only at hSw
        go_simp
        try with_reducible rfl
      rotate_left
      try simp only [Act.put, List.setIfInBounds_toArray, List.set_cons_zero, List.set_cons_succ, List.getElem_toArray, List.getElem_cons_zero, List.getElem_cons_succ]
      refine wpAnyH_take (i := 2) (v := ?_) rfl (by kernel_rfl) (by kernel_rfl) (by kernel_rfl) (fun _ _ _ h => h) (Or.inl ⟨by rfl, ?_⟩) (by assumption) ?_
      rotate_left
      · intro w hSw
        try dsimp only at hSw
        go_simp
        try with_reducible rfl
      rotate_left
      try simp only [Act.put, List.setIfInBounds_toArray, List.set_cons_zero, List.set_cons_succ, List.getElem_toArray, List.getElem_cons_zero, List.getElem_cons_succ]
      refine wpAnyH_take (i := 3) (v := ?_) rfl (by kernel_rfl) (by kernel_rfl) (by kernel_rfl) (fun _ _ _ h => h) (Or.inl ⟨by rfl, ?_⟩) (by assumption) ?_
      rotate_left
      · intro w hSw
        try dsimp only at hSw
        go_simp
        try with_reducible rfl
      rotate_left
      try simp only [Act.put, List.setIfInBounds_toArray, List.set_cons_zero, List.set_cons_succ, List.getElem_toArray, List.getElem_cons_zero, List.getElem_cons_succ]
      refine wpAnyH_take (i := 5) (v := ?_) rfl (by kernel_rfl) (by kernel_rfl) (by kernel_rfl) (fun _ _ _ h => h) (Or.inl ⟨by rfl, ?_⟩) (by assumption) ?_
      rotate_left
      · intro w hSw
        try dsimp only at hSw
        go_simp
        try with_reducible rfl
      rotate_left
      try simp only [Act.put, List.setIfInBounds_toArray, List.set_cons_zero, List.set_cons_succ, List.getElem_toArray, List.getElem_cons_zero, List.getElem_cons_succ]
      refine wpAnyH_ready (rs := [4]) (by kernel_rfl) (by simp) ?_
      refine (AllReadyH.cons rfl (fun K hK => ?_) AllReadyH.nil)
      rw [if_pos (by rfl)]
      go_wp2_with fail
      refine (HCH.out _ (below_dn HB4.out 1) hHeld.1 hHeld.2).mono ?_
      rintro e w7 ⟨A7, c7, rfl, hrows, hb7⟩
      have HR7 := Lib.hid hrows
      have HB7 := Lib.hid (below_trans (below_dn HB4.out 1) hb7 HB4.out.size)
      refine hK.out _ _ ⟨cell_keep hb7 hHeld.1, cell_keep hb7 hHeld.2⟩ (fun hHeld => ?_)
      clear hb7 hrows hK K
      try simp only [Act.put, List.setIfInBounds_toArray, List.set_cons_zero, List.set_cons_succ, List.getElem_toArray, List.getElem_cons_zero, List.getElem_cons_succ]
      refine wpAnyH_take (i := 6) (v := ?_) rfl (by kernel_rfl) (by kernel_rfl) (by kernel_rfl) (fun _ _ _ h => h) (Or.inl ⟨by rfl, ?_⟩) (by assumption) ?_
      rotate_left
      · intro w hSw
        try dsimp only at hSw
        go_simp
        try with_reducible rfl
      rotate_left
      try simp only [Act.put, List.setIfInBounds_toArray, List.set_cons_zero, List.set_cons_succ, List.getElem_toArray, List.getElem_cons_zero, List.getElem_cons_succ]
      refine wpAnyH_take (i := 7) (v := ?_) rfl (by kernel_rfl) (by kernel_rfl) (by kernel_rfl) (fun _ _ _ h => h) (Or.inl ⟨by rfl, ?_⟩) (by assumption) ?_
      rotate_left
      · intro w hSw
        try dsimp only at hSw
        go_simp
        try with_reducible rfl
      rotate_left
      try simp only [Act.put, List.setIfInBounds_toArray, List.set_cons_zero, List.set_cons_succ, List.getElem_toArray, List.getElem_cons_zero, List.getElem_cons_succ]
      refine wpAnyH_take (i := 8) (v := ?_) rfl (by kernel_rfl) (by kernel_rfl) (by kernel_rfl) (fun _ _ _ h => h) (Or.inl ⟨by rfl, ?_⟩) (by assumption) ?_
      rotate_left
      · intro w hSw
        try dsimp only at hSw
        go_simp
        try with_reducible rfl
      rotate_left
      try simp only [Act.put, List.setIfInBounds_toArray, List.set_cons_zero, List.set_cons_succ, List.getElem_toArray, List.getElem_cons_zero, List.getElem_cons_succ]
      refine wpAnyH_done (by kernel_rfl) ?_ _
      clear hHeld
      generalize changeF rs n ep (putD sq yes) = res at *
      go_wp2_with fail
      go_ret3
      exact ⟨A7, c7, rfl, HR7.out, HB7.out⟩
  · rw [if_pos rfl]
    have hcs : t = false ∧ 64 ≤ rs.length := by
      have h := HFU.out
      cases t
      · refine ⟨rfl, ?_⟩; simp at h; omega
      · simp at h
    obtain ⟨rfl, hl64⟩ := hcs
    go_enter Try.func16, Try.ntmps16
    go_wp2_with fail
    rw [← HW0.out]
    refine HA.out.mono ?_
    rintro e w1 ⟨rfl, hb1⟩
    have HB1 := Lib.hid (below_trans HB0.out hb1 HB0.out.size)
    have x8 := cell_keep hb1 HX.out.1
    have x9 := cell_keep hb1 HX.out.2
    clear hb1
    go_wp2_with fail
    refine (HRO.out _ HB1.out).mono ?_
    rintro e w2 ⟨rfl, hb2⟩
    have HB2 := Lib.hid (below_trans HB1.out hb2 HB1.out.size)
    have y8 := cell_keep hb2 x8
    have y9 := cell_keep hb2 x9
    clear hb2 x8 x9
    go_wp2_with fail
    refine (HOW.out _ HB2.out).mono ?_
    rintro e w3 ⟨rfl, hb3⟩
    have HB3 := Lib.hid (below_trans HB2.out hb3 HB2.out.size)
    have z8 := cell_keep hb3 y8
    have z9 := cell_keep hb3 y9
    have hz8 := cell_lt z8
    have hz9 := cell_lt z9
    clear hb3 y8 y9
    go_wp2_with fail
    go_ret3
    exact ⟨A, c, rfl, (HR.out.below HB3.out).below ((Below.refl _ _).alloc (Nat.le_refl _) _), HB3.out.alloc HB3.out.size _⟩

set_option maxRecDepth 100000 in
set_option maxHeartbeats 8000000 in
theorem table_Decide_some (rs : List TRow) (A : Option Addr) (c : Nat) (n ep sq : Int) (yes : Bool) (w : World) (hr : RowsIn w (.slice A rs.length c) rs) (hn : rs.length ≤ 100000) (hl : ∀ r ∈ rs, r.l.length ≤ 100000) (n1 : -9223372036854775808 ≤ n) (n2 : n ≤ 9223372036854775807)
    (e1 : -9223372036854775808 ≤ ep) (e2 : ep ≤ 9223372036854775807) (s1 : -9223372036854775808 ≤ sq) (s2 : sq ≤ 9223372036854775807) (ha : askF rs n ep sq = (false, 6)) (r : TRow) (hown : (ownF rs n ep sq).1 = some r) (b : Bool) (hb : fullF rs n ep sq = b) (t : Bool) (i : Nat) (hp : placeN (rs.map (·.client)) n = (i, t))
    (hf : ∀ r : TRow, r ∈ rs ∨ r = ⟨n, ep, 0, []⟩ → (putD sq yes r).l.length ≤ 8796093022207 ∧ i64ok (putD sq yes r).client ∧ i64ok (putD sq yes r).epoch ∧ i64ok (putD sq yes r).done) :
    Calls Try.prog 16 #[.slice A rs.length c, .int .i64 n, .int .i64 ep, .int .i64 sq, .bool yes] w (DecRet w (if b = true then (rs, false, 12) else (changeF rs n ep (putD sq yes), yes, 0))) := by
  obtain ⟨W0, hW0⟩ : ∃ W0, W0 = (w.alloc (.cells #[.int .i64 sq] 3)).alloc (.cells #[.bool yes] 4) := ⟨_, rfl⟩
  have hb0 : Below w.heap.size w W0 := by rw [hW0]; exact ((Below.refl _ _).alloc (Nat.le_refl _) _).alloc (by simp) _
  have x8 : W0.cell? ⟨w.heap.size, 0, none⟩ = some (.int .i64 sq) := by rw [hW0]; exact cell_alloc _ (cell_new _ _ _ 0)
  have x9 : W0.cell? ⟨w.heap.size + 1, 0, none⟩ = some (.bool yes) := by rw [hW0]; simp [go_sem]
  have HX := Lib.hid (And.intro x8 x9)
  have HA := Lib.hid (table_Ask rs _ n ep sq W0 (hr.below hb0) (by omega) n1 n2 e1 e2 s1 s2)
  rw [ha] at HA
  have HRO := Lib.hid (fun W (h : Below w.heap.size w W) => table_rowOf rs A c n W (hr.below h) (by omega) n1 n2)
  rw [hp] at HRO
  have HOW := Lib.hid (fun W (h : Below w.heap.size w W) => table_own rs _ n ep sq W (hr.below h) (by omega) n1 n2 e1 e2 s1 s2)
  have HOW2 := HOW.out
  unfold OwnR at HOW2
  rw [hown] at HOW2
  simp only at HOW2
  replace HOW := Lib.hid HOW2
  clear HOW2
  have HCH := Lib.hid (fun W (h : Below w.heap.size w W) (h8 : W.cell? ⟨w.heap.size, 0, none⟩ = some (.int .i64 sq)) (h9 : W.cell? ⟨w.heap.size + 1, 0, none⟩ = some (.bool yes)) => changed_dec rs A c n ep w.heap.size (w.heap.size + 1) (putD sq yes) W (hr.below h) hn hl n1 n2 e1 e2 (fun V r A c hV hs hl _ _ _ => decide_put r A c sq yes w.heap.size (w.heap.size + 1) V hs hl (cell_keep hV h8) (cell_keep hV h9) s1 s2) hf)
  have HB0 := Lib.hid hb0
  have HR := Lib.hid hr
  have HW0 := Lib.hid hW0
  have hfull : b = ((!t && decide (64 ≤ rs.length)) || decide (256 ≤ r.l.length)) := by rw [← hb]; unfold fullF; rw [hp, hown]
  have HFU := Lib.hid hfull
  have HRB := Lib.hid hb
  clear hW0 hb0 hr ha x8 x9 hb hf hfull hl
  cases b
  · rw [if_neg (by decide)]
    have hcs : (t = true ∨ (t = false ∧ rs.length < 64)) ∧ r.l.length < 256 := by
      have h := HFU.out
      cases t
      · simp at h; exact ⟨.inr ⟨rfl, by omega⟩, by omega⟩
      · simp at h; exact ⟨.inl rfl, by omega⟩
    obtain ⟨hcs, hl256⟩ := hcs
    rcases hcs with rfl | ⟨rfl, hl64⟩
    all_goals
      go_enter Try.func16, Try.ntmps16
      go_wp2_with fail
      rw [← HW0.out]
      refine HA.out.mono ?_
      rintro e w1 ⟨rfl, hb1⟩
      have HB1 := Lib.hid (below_trans HB0.out hb1 HB0.out.size)
      have x8 := cell_keep hb1 HX.out.1
      have x9 := cell_keep hb1 HX.out.2
      clear hb1
      go_wp2_with fail
      refine (HRO.out _ HB1.out).mono ?_
      rintro e w2 ⟨rfl, hb2⟩
      have HB2 := Lib.hid (below_trans HB1.out hb2 HB1.out.size)
      have y8 := cell_keep hb2 x8
      have y9 := cell_keep hb2 x9
      clear hb2 x8 x9
      go_wp2_with fail
      refine (HOW.out _ HB2.out).mono ?_
      rintro e w3 ⟨v3, rfl, ⟨A1, c1, rfl, hs1⟩, hb3⟩
      have HB3 := Lib.hid (below_trans HB2.out hb3 HB2.out.size)
      have z8 := cell_keep hb3 y8
      have z9 := cell_keep hb3 y9
      have hz8 := cell_lt z8
      have hz9 := cell_lt z9
      clear hb3 y8 y9
      go_wp2_with fail
      obtain ⟨W4, hW4⟩ : ∃ W4, W4 = w3.alloc (.cells #[.int .i64 r.client, .int .i64 r.epoch, .int .i64 r.done, .slice A1 r.l.length c1] 63) := ⟨_, rfl⟩
      rw [← hW4]
      have b34 : Below w3.heap.size w3 W4 := by rw [hW4]; exact (Below.refl _ _).alloc (Nat.le_refl _) _
      have HB4 := Lib.hid (below_trans HB3.out b34 HB3.out.size)
      have u8 := cell_keep b34 z8
      have u9 := cell_keep b34 z9
      clear hW4 b34 z8 z9
      refine wp_region_held_drew (S := fun V => V.cell? ⟨w.heap.size, 0, none⟩ = some (.int .i64 sq) ∧ V.cell? ⟨w.heap.size + 1, 0, none⟩ = some (.bool yes)) (by kernel_rfl) (⟨u8, u9⟩) (fun hHeld => ?_)
      refine wpAnyH_take (i := 0) (v := ?_) rfl (by kernel_rfl) (by kernel_rfl) (by kernel_rfl) (fun _ _ _ h => h) (Or.inl ⟨by rfl, ?_⟩) (by assumption) ?_
      rotate_left
      · intro w hSw
        try dsimp only at hSw
        go_simp
        try with_reducible rfl
      rotate_left
      try simp only [Act.put, List.setIfInBounds_toArray, List.set_cons_zero, List.set_cons_succ, List.getElem_toArray, List.getElem_cons_zero, List.getElem_cons_succ]
      refine wpAnyH_take (i := 1) (v := ?_) rfl (by kernel_rfl) (by kernel_rfl) (by kernel_rfl) (fun _ _ _ h => h) (Or.inl ⟨by rfl, ?_⟩) (by assumption) ?_
      rotate_left
      · intro w hSw
        try dsimp only at hSw
        go_simp
        try with_reducible rfl
      rotate_left
      try simp only [Act.put, List.setIfInBounds_toArray, List.set_cons_zero, List.set_cons_succ, List.getElem_toArray, List.getElem_cons_zero, List.getElem_cons_succ]
      refine wpAnyH_take (i := 2) (v := ?_) rfl (by kernel_rfl) (by kernel_rfl) (by kernel_rfl) (fun _ _ _ h => h) (Or.inl ⟨by rfl, ?_⟩) (by assumption) ?_
      rotate_left
      · intro w hSw
        try dsimp only at hSw
        go_simp
        try with_reducible rfl
      rotate_left
      try simp only [Act.put, List.setIfInBounds_toArray, List.set_cons_zero, List.set_cons_succ, List.getElem_toArray, List.getElem_cons_zero, List.getElem_cons_succ]
      refine wpAnyH_take (i := 3) (v := ?_) rfl (by kernel_rfl) (by kernel_rfl) (by kernel_rfl) (fun _ _ _ h => h) (Or.inl ⟨by rfl, ?_⟩) (by assumption) ?_
      rotate_left
      · intro w hSw
        try dsimp only at hSw
        go_simp
        try with_reducible rfl
      rotate_left
      try simp only [Act.put, List.setIfInBounds_toArray, List.set_cons_zero, List.set_cons_succ, List.getElem_toArray, List.getElem_cons_zero, List.getElem_cons_succ]
      refine wpAnyH_take (i := 5) (v := ?_) rfl (by kernel_rfl) (by kernel_rfl) (by kernel_rfl) (fun _ _ _ h => h) (Or.inl ⟨by rfl, ?_⟩) (by assumption) ?_
      rotate_left
      · intro w hSw
        try dsimp only at hSw
        go_simp
        try with_reducible rfl
      rotate_left
      try simp only [Act.put, List.setIfInBounds_toArray, List.set_cons_zero, List.set_cons_succ, List.getElem_toArray, List.getElem_cons_zero, List.getElem_cons_succ]
      refine wpAnyH_ready (rs := [4]) (by kernel_rfl) (by simp) ?_
      refine (AllReadyH.cons rfl (fun K hK => ?_) AllReadyH.nil)
      rw [if_pos (by rfl)]
      go_wp2_with fail
      refine (HCH.out _ (below_dn HB4.out 1) hHeld.1 hHeld.2).mono ?_
      rintro e w7 ⟨A7, c7, rfl, hrows, hb7⟩
      have HR7 := Lib.hid hrows
      have HB7 := Lib.hid (below_trans (below_dn HB4.out 1) hb7 HB4.out.size)
      refine hK.out _ _ ⟨cell_keep hb7 hHeld.1, cell_keep hb7 hHeld.2⟩ (fun hHeld => ?_)
      clear hb7 hrows hK K
      try simp only [Act.put, List.setIfInBounds_toArray, List.set_cons_zero, List.set_cons_succ, List.getElem_toArray, List.getElem_cons_zero, List.getElem_cons_succ]
      refine wpAnyH_take (i := 6) (v := ?_) rfl (by kernel_rfl) (by kernel_rfl) (by kernel_rfl) (fun _ _ _ h => h) (Or.inl ⟨by rfl, ?_⟩) (by assumption) ?_
      rotate_left
      · intro w hSw
        try dsimp only at hSw
        go_simp
        try with_reducible rfl
      rotate_left
      try simp only [Act.put, List.setIfInBounds_toArray, List.set_cons_zero, List.set_cons_succ, List.getElem_toArray, List.getElem_cons_zero, List.getElem_cons_succ]
      refine wpAnyH_take (i := 7) (v := ?_) rfl (by kernel_rfl) (by kernel_rfl) (by kernel_rfl) (fun _ _ _ h => h) (Or.inl ⟨by rfl, ?_⟩) (by assumption) ?_
      rotate_left
      · intro w hSw
        try dsimp only at hSw
        go_simp
        try with_reducible rfl
      rotate_left
      try simp only [Act.put, List.setIfInBounds_toArray, List.set_cons_zero, List.set_cons_succ, List.getElem_toArray, List.getElem_cons_zero, List.getElem_cons_succ]
      refine wpAnyH_take (i := 8) (v := ?_) rfl (by kernel_rfl) (by kernel_rfl) (by kernel_rfl) (fun _ _ _ h => h) (Or.inl ⟨by rfl, ?_⟩) (by assumption) ?_
      rotate_left
      · intro w hSw
        try dsimp only at hSw
        go_simp
        try with_reducible rfl
      rotate_left
      try simp only [Act.put, List.setIfInBounds_toArray, List.set_cons_zero, List.set_cons_succ, List.getElem_toArray, List.getElem_cons_zero, List.getElem_cons_succ]
      refine wpAnyH_done (by kernel_rfl) ?_ _
      clear hHeld
      generalize changeF rs n ep (putD sq yes) = res at *
      go_wp2_with fail
      go_ret3
      exact ⟨A7, c7, rfl, HR7.out, HB7.out⟩
  · rw [if_pos rfl]
    have hcs : (t = false ∧ 64 ≤ rs.length) ∨ ((t = true ∨ (t = false ∧ rs.length < 64)) ∧ 256 ≤ r.l.length) := by
      have h := HFU.out
      cases t
      · simp at h
        by_cases h64 : 64 ≤ rs.length
        · exact .inl ⟨rfl, h64⟩
        · exact .inr ⟨.inr ⟨rfl, by omega⟩, by omega⟩
      · simp at h; exact .inr ⟨.inl rfl, by omega⟩
    rcases hcs with ⟨rfl, hl64⟩ | ⟨rfl | ⟨rfl, hl64⟩, hl256⟩
    all_goals
      go_enter Try.func16, Try.ntmps16
      go_wp2_with fail
      rw [← HW0.out]
      refine HA.out.mono ?_
      rintro e w1 ⟨rfl, hb1⟩
      have HB1 := Lib.hid (below_trans HB0.out hb1 HB0.out.size)
      have x8 := cell_keep hb1 HX.out.1
      have x9 := cell_keep hb1 HX.out.2
      clear hb1
      go_wp2_with fail
      refine (HRO.out _ HB1.out).mono ?_
      rintro e w2 ⟨rfl, hb2⟩
      have HB2 := Lib.hid (below_trans HB1.out hb2 HB1.out.size)
      have y8 := cell_keep hb2 x8
      have y9 := cell_keep hb2 x9
      clear hb2 x8 x9
      go_wp2_with fail
      refine (HOW.out _ HB2.out).mono ?_
      rintro e w3 ⟨v3, rfl, ⟨A1, c1, rfl, hs1⟩, hb3⟩
      have HB3 := Lib.hid (below_trans HB2.out hb3 HB2.out.size)
      have z8 := cell_keep hb3 y8
      have z9 := cell_keep hb3 y9
      have hz8 := cell_lt z8
      have hz9 := cell_lt z9
      clear hb3 y8 y9
      go_wp2_with fail
      go_ret3
      exact ⟨A, c, rfl, (HR.out.below HB3.out).below ((Below.refl _ _).alloc (Nat.le_refl _) _), HB3.out.alloc HB3.out.size _⟩
end Go.Proofs.Ythnajmfbomedlaa
