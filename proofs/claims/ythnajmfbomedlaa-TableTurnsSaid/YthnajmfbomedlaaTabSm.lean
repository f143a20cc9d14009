/- table.Same: it answers as the document says; old memory is as it was. -/
import Derived.Test.YthnajmfbomedlaaTabEq
set_option linter.unusedVariables false
set_option linter.unusedSimpArgs false
namespace Go.Proofs.Ythnajmfbomedlaa
open Go.RowKit Copyhold

set_option maxRecDepth 100000 in
set_option maxHeartbeats 8000000 in
theorem table_Same1 (r q : TRow) (A B : Option Addr) (c d : Nat) (w : World) (h1 : SlOf DecR w 2 (.slice A r.l.length c) r.l) (h2 : SlOf DecR w 2 (.slice B q.l.length d) q.l) (n1 : r.l.length ≤ 100000) (n2 : q.l.length ≤ 100000) :
    Calls Try.prog 38 #[.agg #[.int .i64 r.client, .int .i64 r.epoch, .int .i64 r.done, .slice A r.l.length c], .agg #[.int .i64 q.client, .int .i64 q.epoch, .int .i64 q.done, .slice B q.l.length d]] w fun e w' => e = .returned (.bool (sameRow r q)) ∧ Below w.heap.size w w' := by
  obtain ⟨a1, a2, a3, l1⟩ := r
  obtain ⟨b1, b2, b3, l2⟩ := q
  simp only at h1 h2 n1 n2 ⊢
  obtain ⟨W1, hW1⟩ : ∃ W1, W1 = (w.alloc (.cells #[.int .i64 a1, .int .i64 a2, .int .i64 a3, .slice A l1.length c] 63)).alloc (.cells #[.int .i64 b1, .int .i64 b2, .int .i64 b3, .slice B l2.length d] 63) := ⟨_, rfl⟩
  have hb1 : Below w.heap.size w W1 := by rw [hW1]; exact ((Below.refl _ _).alloc (Nat.le_refl _) _).alloc (by simp) _
  have HC := Lib.hid (decs_Equal l1 l2 _ _ W1 (h1.below hb1) (h2.below hb1) n1 n2)
  have HB1 := Lib.hid hb1
  have HW1 := Lib.hid hW1
  clear h1 h2 hb1 hW1
  by_cases g1 : a1 = b1
  · by_cases g2 : a2 = b2
    · by_cases g3 : a3 = b3
      · have q1 : (a1 == b1) = true := by simpa using g1
        have q2 : (a2 == b2) = true := by simpa using g2
        have q3 : (a3 == b3) = true := by simpa using g3
        have HF := Lib.hid (show sameRow ⟨a1, a2, a3, l1⟩ ⟨b1, b2, b3, l2⟩ = decide (l1 = l2) from by simp [sameRow, g1, g2, g3])
        clear g1 g2 g3
        go_enter Try.func38, Try.ntmps38
        go_wp2_with fail
        rw [← HW1.out]
        refine HC.out.mono ?_
        rintro e w2 ⟨rfl, hb2⟩
        have HB2 := Lib.hid (below_trans HB1.out hb2 HB1.out.size)
        clear hb2
        go_wp2_with fail
        go_ret
        exact ⟨by rw [HF.out]; rfl, HB2.out⟩
      · have q1 : (a1 == b1) = true := by simpa using g1
        have q2 : (a2 == b2) = true := by simpa using g2
        have q3 : (a3 == b3) = false := by simpa using g3
        have HF := Lib.hid (show sameRow ⟨a1, a2, a3, l1⟩ ⟨b1, b2, b3, l2⟩ = false from by simp [sameRow, g1, g2, g3])
        clear g1 g2 g3
        go_enter Try.func38, Try.ntmps38
        go_wp2_with fail
        rw [← HW1.out]
        go_ret
        exact ⟨by rw [HF.out]; rfl, HB1.out⟩
    · have q1 : (a1 == b1) = true := by simpa using g1
      have q2 : (a2 == b2) = false := by simpa using g2
      have HF := Lib.hid (show sameRow ⟨a1, a2, a3, l1⟩ ⟨b1, b2, b3, l2⟩ = false from by simp [sameRow, g1, g2])
      clear g1 g2
      go_enter Try.func38, Try.ntmps38
      go_wp2_with fail
      rw [← HW1.out]
      go_ret
      exact ⟨by rw [HF.out]; rfl, HB1.out⟩
  · have q1 : (a1 == b1) = false := by simpa using g1
    have HF := Lib.hid (show sameRow ⟨a1, a2, a3, l1⟩ ⟨b1, b2, b3, l2⟩ = false from by simp [sameRow, g1])
    clear g1
    go_enter Try.func38, Try.ntmps38
    go_wp2_with fail
    rw [← HW1.out]
    go_ret
    exact ⟨by rw [HF.out]; rfl, HB1.out⟩

set_option maxRecDepth 100000 in
set_option maxHeartbeats 8000000 in
theorem rows_EqualFunc (a b : List TRow) (v u : Value) (w : World) (ha : RowsIn w v a) (hb : RowsIn w u b) (na : a.length ≤ 100000) (la : ∀ r ∈ a, r.l.length ≤ 100000) (nb : b.length ≤ 100000) (lb : ∀ r ∈ b, r.l.length ≤ 100000) :
    Calls Try.prog 37 #[v, u, .func (.func 38) #[] #[]] w fun e w' => e = .returned (.bool (sameB a b)) ∧ Below w.heap.size w w' := by
  obtain ⟨A, c, rfl⟩ := SlOf.shape ha
  obtain ⟨B, d, rfl⟩ := SlOf.shape hb
  have HA := Lib.hid ha
  have HB := Lib.hid hb
  have LA := Lib.hid la
  have LB := Lib.hid lb
  clear ha hb la lb
  by_cases hle : a.length = b.length
  · have hl1 : ((a.length : Int) != (b.length : Int)) = false := by rw [hle]; simp
    have HLE := Lib.hid hle
    clear hle
    go_enter Try.func37, Try.ntmps37
    go_wp2_with fail
    go_loopw [17] (fun si wr => ∃ k : Nat, si = .int .i64 k ∧ k ≤ a.length ∧ a.take k = b.take k ∧ Below w.heap.size w wr) (fun si _ => a.length - (intOf si).toNat)
    case atStart => exact ⟨0, rfl, Nat.zero_le _, by simp, Below.refl _ _⟩
    case round =>
      obtain ⟨k, rfl, hk, hp, hb⟩ := hrel
      have HP := Lib.hid (And.intro hp hb)
      have hbs := hb.size
      clear hp hl1 hb
      by_cases hlt : k < a.length
      · have hlt' : k < b.length := by have := HLE.out; omega
        obtain ⟨b1, o1, A1, c1, rfl, hb1, k0, k1, k2, k3, hsl1, hll1, _, _, _⟩ := (HA.out.below HP.out.2).at k hlt
        obtain ⟨b2, o2, A2, c2, rfl, hb2, m0, m1, m2, m3, hsl2, hll2, _, _, _⟩ := (HB.out.below HP.out.2).at k hlt'
        have hr1 := LA.out _ (List.getElem_mem hlt)
        have hr2 := LB.out _ (List.getElem_mem hlt')
        have hi1 : (k : Int) < (a.length : Int) := by omega
        have hi2 : (k : Int) < (b.length : Int) := by omega
        have HST := Lib.hid (fun h => take_more HP.out.1 hlt hlt' h)
        have HNO := Lib.hid (fun h => sameB_no (getE_ne hlt hlt' h))
        generalize a[k] = r1 at *
        generalize b[k] = r2 at *
        obtain ⟨W3, hW3⟩ : ∃ W3, W3 = (wr.alloc (.cells #[.int .i64 r1.client, .int .i64 r1.epoch, .int .i64 r1.done, .slice A1 r1.l.length c1] 63)).alloc (.cells #[.int .i64 r2.client, .int .i64 r2.epoch, .int .i64 r2.done, .slice A2 r2.l.length c2] 63) := ⟨_, rfl⟩
        have hb3 : Below wr.heap.size wr W3 := by rw [hW3]; exact ((Below.refl _ _).alloc (Nat.le_refl _) _).alloc (by simp) _
        have HC := Lib.hid (table_Same1 r1 r2 A1 A2 c1 c2 W3 (hsl1.below hb3) (hsl2.below hb3) hr1 hr2)
        have HB3 := Lib.hid (below_trans HP.out.2 hb3 hbs)
        have HW3 := Lib.hid hW3
        clear hsl1 hsl2 hll1 hll2 hW3 hb3
        go_wp2_with fail
        rw [← HW3.out]
        refine HC.out.mono ?_
        rintro e w4 ⟨rfl, hb4⟩
        have HB4 := Lib.hid (below_trans HB3.out hb4 HB3.out.size)
        clear hb4
        by_cases hrow : sameRow r1 r2 = true
        · rw [hrow]
          have HN := Lib.hid (HST.out ((sameRow_iff r1 r2).1 hrow))
          clear hrow
          go_wp2_with fail
          go_roundw
          case rel => exact ⟨k + 1, by go_num, by omega, HN.out, HB4.out⟩
          case measure => simp [intOf]; omega
        · have hrow' : sameRow r1 r2 = false := by simpa using hrow
          rw [hrow']
          have HF := Lib.hid (HNO.out (fun h => hrow ((sameRow_iff r1 r2).2 h)))
          clear hrow hrow'
          go_wp2_with fail
          go_ret
          exact ⟨by rw [HF.out]; rfl, HB4.out⟩
      · have HF : Hid (sameB a b = true) := Lib.hid (by rw [take_all HP.out.1 (by omega) HLE.out]; exact sameB_self _)
        go_wp2_with fail
        go_ret
        exact ⟨by rw [HF.out]; rfl, HP.out.2⟩
  · have hl1 : ((a.length : Int) != (b.length : Int)) = true := by rw [bne_iff_ne]; omega
    have HF := Lib.hid (sameB_no (a := a) (b := b) (fun h => hle (by rw [h])))
    clear hle
    go_enter Try.func37, Try.ntmps37
    go_wp2_with fail
    go_ret
    exact ⟨by rw [HF.out]; rfl, Below.refl _ _⟩

theorem table_Same (a b : List TRow) (v u : Value) (w : World) (ha : RowsIn w v a) (hb : RowsIn w u b) (na : a.length ≤ 100000) (la : ∀ r ∈ a, r.l.length ≤ 100000) (nb : b.length ≤ 100000) (lb : ∀ r ∈ b, r.l.length ≤ 100000) :
    Calls Try.prog 21 #[v, u] w fun e w' => e = .returned (.bool (sameB a b)) ∧ Below w.heap.size w w' := by
  obtain ⟨A, c, rfl⟩ := SlOf.shape ha
  obtain ⟨B, d, rfl⟩ := SlOf.shape hb
  have HC := Lib.hid (rows_EqualFunc a b _ _ w ha hb na la nb lb)
  clear ha hb la lb
  go_enter Try.func21, Try.ntmps21
  go_wp2_with fail
  refine HC.out.mono ?_
  rintro e w1 ⟨rfl, hb1⟩
  have HB1 := Lib.hid hb1
  clear hb1
  go_wp2_with fail
  go_ret
  exact ⟨rfl, HB1.out⟩
end Go.Proofs.Ythnajmfbomedlaa

