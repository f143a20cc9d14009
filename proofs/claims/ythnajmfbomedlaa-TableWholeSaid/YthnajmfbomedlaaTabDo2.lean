/- table.Decide as one, table.Forget: they answer as the document says; old memory is as it was. -/
import Derived.Test.YthnajmfbomedlaaTabDo
set_option linter.unusedVariables false
set_option linter.unusedSimpArgs false
namespace Go.Proofs.Ythnajmfbomedlaa
open Go.RowKit Copyhold

theorem rows_ok {w : World} {A : Option Addr} {c : Nat} {rs : List TRow} (h : RowsIn w (.slice A rs.length c) rs) (r : TRow) (hr : r ∈ rs) : i64ok r.client ∧ i64ok r.epoch ∧ i64ok r.done := by
  obtain ⟨j, hj, rfl⟩ := List.mem_iff_getElem.1 hr
  obtain ⟨_, _, _, _, _, _, _, _, _, _, _, _, z⟩ := h.at j hj
  exact z
theorem ask_none (rs : List TRow) (n ep sq : Int) (h : (askF rs n ep sq).2 = 6) : askF rs n ep sq = (false, 6) := by
  unfold askF at h ⊢
  cases ho : (ownF rs n ep sq).1 with
  | none =>
    rw [ho] at h
    simp only at h ⊢
    rw [h]
  | some r =>
    rw [ho] at h
    simp only at h ⊢
    split at h
    · cases h
    · rename_i h1
      rw [if_neg h1]
      split at h
      · cases h
      · rename_i h2
        rw [if_neg h2]

theorem table_Decide (rs : List TRow) (v : Value) (n ep sq : Int) (yes : Bool) (w : World) (hr : RowsIn w v rs) (hn : rs.length ≤ 100000) (hl : ∀ r ∈ rs, r.l.length ≤ 100000) (n1 : -9223372036854775808 ≤ n) (n2 : n ≤ 9223372036854775807)
    (e1 : -9223372036854775808 ≤ ep) (e2 : ep ≤ 9223372036854775807) (s1 : -9223372036854775808 ≤ sq) (s2 : sq ≤ 9223372036854775807) :
    Calls Try.prog 16 #[v, .int .i64 n, .int .i64 ep, .int .i64 sq, .bool yes] w (DecRet w (decideF rs n ep sq yes)) := by
  obtain ⟨A, c, rfl⟩ := SlOf.shape hr
  have hf : ∀ r : TRow, r ∈ rs ∨ r = ⟨n, ep, 0, []⟩ → (putD sq yes r).l.length ≤ 8796093022207 ∧ i64ok (putD sq yes r).client ∧ i64ok (putD sq yes r).epoch ∧ i64ok (putD sq yes r).done := by
    intro r hr'
    have hlen : (putD sq yes r).l.length = r.l.length + 1 := insD_len r.l sq yes
    rcases hr' with h | rfl
    · have := hl r h
      exact ⟨by omega, rows_ok hr r h⟩
    · exact ⟨by rw [hlen]; simp, ⟨n1, n2⟩, ⟨e1, e2⟩, by show i64ok 0; exact ⟨by decide, by decide⟩⟩
  unfold decideF
  by_cases ha : (askF rs n ep sq).2 ≠ 6
  · rw [if_pos ha]
    exact table_Decide_was rs A c n ep sq yes w hr hn n1 n2 e1 e2 s1 s2 ha
  · rw [if_neg ha]
    have ha' := ask_none rs n ep sq (by omega)
    cases ho : (ownF rs n ep sq).1 with
    | none => exact table_Decide_none rs A c n ep sq yes w hr hn hl n1 n2 e1 e2 s1 s2 ha' ho _ rfl _ _ rfl hf
    | some r => exact table_Decide_some rs A c n ep sq yes w hr hn hl n1 n2 e1 e2 s1 s2 ha' r ho _ rfl _ _ rfl hf

/-- what is forgotten -/
def cutD (dn : Int) (r : TRow) : TRow := ⟨r.client, r.epoch, max r.done dn, above r.l (max r.done dn)⟩
def forgetF (rs : List TRow) (n ep dn : Int) : List TRow × Int := if (ownF rs n ep dn).1 = none then (rs, (ownF rs n ep dn).2) else (changeF rs n ep (cutD dn), 0)
def ForRet (w : World) (r : List TRow × Int) (e : Ending) (w' : World) : Prop := ∃ A c, e = .returned (.tuple #[.slice A r.1.length c, .int .i64 r.2]) ∧ RowsIn w' (.slice A r.1.length c) r.1 ∧ Below w.heap.size w w'

set_option maxRecDepth 100000 in
set_option maxHeartbeats 8000000 in
theorem table_Forget (rs : List TRow) (v : Value) (n ep dn : Int) (w : World) (hr : RowsIn w v rs) (hn : rs.length ≤ 100000) (hl : ∀ r ∈ rs, r.l.length ≤ 100000) (n1 : -9223372036854775808 ≤ n) (n2 : n ≤ 9223372036854775807)
    (e1 : -9223372036854775808 ≤ ep) (e2 : ep ≤ 9223372036854775807) (s1 : -9223372036854775808 ≤ dn) (s2 : dn ≤ 9223372036854775807) :
    Calls Try.prog 18 #[v, .int .i64 n, .int .i64 ep, .int .i64 dn] w (ForRet w (forgetF rs n ep dn)) := by
  obtain ⟨A, c, rfl⟩ := SlOf.shape hr
  have hf : ∀ r : TRow, r ∈ rs ∨ r = ⟨n, ep, 0, []⟩ → (cutD dn r).l.length ≤ 8796093022207 ∧ i64ok (cutD dn r).client ∧ i64ok (cutD dn r).epoch ∧ i64ok (cutD dn r).done := by
    intro r hr'
    have hlen : (cutD dn r).l.length ≤ r.l.length := List.length_filter_le _ _
    have hmx : i64ok r.done → i64ok (cutD dn r).done := fun ⟨h1, h2⟩ => by
      show i64ok (max r.done dn)
      exact ⟨by omega, by omega⟩
    rcases hr' with h | rfl
    · have := hl r h
      have h3 := rows_ok hr r h
      exact ⟨by omega, h3.1, h3.2.1, hmx h3.2.2⟩
    · exact ⟨by simp at hlen ⊢; rw [hlen]; simp, ⟨n1, n2⟩, ⟨e1, e2⟩, hmx ⟨by simp, by simp⟩⟩
  have herr := own_err rs n ep dn
  obtain ⟨W0, hW0⟩ : ∃ W0, W0 = w.alloc (.cells #[.int .i64 dn] 3) := ⟨_, rfl⟩
  have hb0 : Below w.heap.size w W0 := by rw [hW0]; exact (Below.refl _ _).alloc (Nat.le_refl _) _
  have x7 : W0.cell? ⟨w.heap.size, 0, none⟩ = some (.int .i64 dn) := by rw [hW0]; exact cell_new _ _ _ 0
  have HOW := Lib.hid (table_own rs _ n ep dn W0 (hr.below hb0) (by omega) n1 n2 e1 e2 s1 s2)
  have HCH := Lib.hid (fun W (h : Below w.heap.size w W) (h7 : W.cell? ⟨w.heap.size, 0, none⟩ = some (.int .i64 dn)) => changed_for rs A c n ep w.heap.size (cutD dn) W (hr.below h) hn hl n1 n2 e1 e2 (fun V r A c hV hs hl _ _ hd => forget_up r A c dn _ w.heap.size V hs hl (cell_keep hV h7) s1 s2 hd.1 hd.2 rfl) hf)
  have HX := Lib.hid x7
  have HB0 := Lib.hid hb0
  have HR := Lib.hid hr
  have HW0 := Lib.hid hW0
  have HFF : Hid (forgetF rs n ep dn = if (ownF rs n ep dn).1 = none then (rs, (ownF rs n ep dn).2) else (changeF rs n ep (cutD dn), 0)) := Lib.hid rfl
  generalize forgetF rs n ep dn = q at *
  generalize ownF rs n ep dn = o at *
  obtain ⟨o1, o2⟩ := o
  unfold OwnR at HOW
  clear hW0 hb0 hr hf hl x7
  cases o1 with
  | none =>
    simp only at HOW herr
    have hq := HFF.out
    rw [if_pos rfl] at hq
    simp only at hq
    have HQ := Lib.hid hq
    have her := herr trivial
    have hne : (o2 == 0) = false := by rw [beq_eq_false_iff_ne]; omega
    have hne2 : (o2 != 0) = true := by simp [bne, hne]
    clear hq HFF herr her
    go_enter Try.func18, Try.ntmps18
    go_wp2_with fail
    rw [← HW0.out]
    refine HOW.out.mono ?_
    rintro e w1 ⟨rfl, hb1⟩
    have HB1 := Lib.hid (below_trans HB0.out hb1 HB0.out.size)
    clear hb1
    go_wp2_with fail
    go_ret2
    rw [HQ.out]
    exact ⟨A, c, rfl, (HR.out.below HB1.out).below ((Below.refl _ _).alloc (Nat.le_refl _) _), HB1.out.alloc HB1.out.size _⟩
  | some r =>
    simp only at HOW
    have hq := HFF.out
    rw [if_neg (by simp)] at hq
    have HQ := Lib.hid hq
    clear hq HFF herr
    go_enter Try.func18, Try.ntmps18
    go_wp2_with fail
    rw [← HW0.out]
    refine HOW.out.mono ?_
    rintro e w1 ⟨v1, rfl, ⟨A1, c1, rfl, hs1⟩, hb1⟩
    have HB1 := Lib.hid (below_trans HB0.out hb1 HB0.out.size)
    have x7 := cell_keep hb1 HX.out
    have hz7 := cell_lt x7
    obtain ⟨W2, hW2⟩ : ∃ W2, W2 = w1.alloc (.cells #[.int .i64 r.client, .int .i64 r.epoch, .int .i64 r.done, .slice A1 r.l.length c1] 63) := ⟨_, rfl⟩
    have b12 : Below w1.heap.size w1 W2 := by rw [hW2]; exact (Below.refl _ _).alloc (Nat.le_refl _) _
    have HB2 := Lib.hid (below_trans HB1.out b12 HB1.out.size)
    have HC := Lib.hid (HCH.out W2 HB2.out (cell_keep b12 x7))
    have HW2 := Lib.hid hW2
    clear hb1 hs1 hW2 b12
    go_wp2_with fail
    rw [← HW2.out]
    refine HC.out.mono ?_
    rintro e w7 ⟨A7, c7, rfl, hrows, hb7⟩
    have HR7 := Lib.hid hrows
    have HB7 := Lib.hid (below_trans HB2.out hb7 HB2.out.size)
    clear hrows hb7
    generalize changeF rs n ep (cutD dn) = res at *
    go_wp2_with fail
    go_ret2
    rw [HQ.out]
    exact ⟨A7, c7, rfl, HR7.out, HB7.out⟩
end Go.Proofs.Ythnajmfbomedlaa
