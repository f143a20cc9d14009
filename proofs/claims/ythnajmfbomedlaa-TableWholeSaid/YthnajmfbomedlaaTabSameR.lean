/- copyholdref14.Same: it answers as the document says; old memory is as it was. -/
import Derived.Test.YthnajmfbomedlaaTabRight
set_option linter.unusedVariables false
set_option linter.unusedSimpArgs false
namespace Go.Proofs.Ythnajmfbomedlaa
open Go.RowKit Copyhold

open Classical in
/-- are rows the same? -/
noncomputable def sameB (a b : List TRow) : Bool := decide (a = b)
open Classical in
theorem sameB_self (a : List TRow) : sameB a a = true := decide_eq_true rfl
open Classical in
theorem sameB_no {a b : List TRow} (h : a ≠ b) : sameB a b = false := decide_eq_false h
theorem take_all {α : Type} {a b : List α} {k : Nat} (h : a.take k = b.take k) (h1 : a.length ≤ k) (h2 : a.length = b.length) : a = b := by
  rw [List.take_of_length_le h1, List.take_of_length_le (by omega)] at h
  exact h
theorem take_more {α : Type} {a b : List α} {k : Nat} (h : a.take k = b.take k) (h1 : k < a.length) (h2 : k < b.length) (he : a[k] = b[k]) : a.take (k + 1) = b.take (k + 1) := by
  rw [List.take_succ_eq_append_getElem h1, List.take_succ_eq_append_getElem h2, h, he]
theorem getE_ne {α : Type} {a b : List α} {k : Nat} (h1 : k < a.length) (h2 : k < b.length) (he : a[k] ≠ b[k]) : a ≠ b := by
  rintro rfl
  exact he rfl

set_option maxRecDepth 100000 in
set_option maxHeartbeats 16000000 in
theorem ref14_Same (a b : List TRow) (v u : Value) (w : World) (ha : RowsIn w v a) (hb : RowsIn w u b) (na : a.length ≤ 100000) (la : ∀ r ∈ a, r.l.length ≤ 100000) (nb : b.length ≤ 100000) (lb : ∀ r ∈ b, r.l.length ≤ 100000) :
    Calls Try.prog 20 #[v, u] w fun e w' => e = .returned (.bool (sameB a b)) ∧ Below w.heap.size w w' := by
  obtain ⟨A, c, rfl⟩ := SlOf.shape ha
  obtain ⟨B, d, rfl⟩ := SlOf.shape hb
  have HA := Lib.hid ha
  have HB := Lib.hid hb
  have LA := Lib.hid la
  have LB := Lib.hid lb
  clear ha hb la lb
  by_cases hle : a.length = b.length
  · have hl1 : ((a.length : Int) != (b.length : Int)) = false := by rw [hle]; simp
    have HLE := Lib.hid hle
    clear hle
    go_enter Try.func20, Try.ntmps20
    go_wp2_with fail
    go_loopw [5] (fun si wr => ∃ k n : Nat, si = .int .i64 k ∧ k ≤ a.length ∧ a.take k = b.take k ∧ wr = w.drewN n) (fun si _ => a.length - (intOf si).toNat)
    case atStart => exact ⟨0, 0, rfl, Nat.zero_le _, by simp, rfl⟩
    case round =>
      obtain ⟨k, n, rfl, hk, hp, rfl⟩ := hrel
      have HP := Lib.hid hp
      clear hp hl1
      by_cases hlt : k < a.length
      · have hlt' : k < b.length := by have := HLE.out; omega
        obtain ⟨b1, o1, A1, c1, rfl, hb1, k0, k1, k2, k3, hsl1, hll1, _, _, _⟩ := HA.out.at k hlt
        obtain ⟨b2, o2, A2, c2, rfl, hb2, m0, m1, m2, m3, hsl2, hll2, _, _, _⟩ := HB.out.at k hlt'
        have hr1 := LA.out _ (List.getElem_mem hlt)
        have hr2 := LB.out _ (List.getElem_mem hlt')
        have hi1 : (k : Int) < (a.length : Int) := by omega
        have hi2 : (k : Int) < (b.length : Int) := by omega
        have HST := Lib.hid (fun h => take_more HP.out hlt hlt' h)
        have HNO := Lib.hid (fun h => sameB_no (getE_ne hlt hlt' h))
        have HS1 := Lib.hid hsl1
        have HS2 := Lib.hid hsl2
        clear hsl1 hsl2
        generalize a[k] = r1 at *
        generalize b[k] = r2 at *
        obtain ⟨x1, y1, z1, l1⟩ := r1
        obtain ⟨x2, y2, z2, l2⟩ := r2
        simp only at k0 k1 k2 k3 m0 m1 m2 m3 hr1 hr2 hll1 hll2 HS1 HS2
        by_cases h0 : x1 = x2
        rotate_left
        · have hq : (x1 != x2) = true := by rw [bne_iff_ne]; exact h0
          have HS := Lib.hid (HNO.out (by intro h; injection h with e1 e2 e3 e4; exact h0 e1))
          go_wp2_with fail
          go_quiet (fail)
          go_wp2_with fail
          go_ret
          exact ⟨by rw [HS.out]; rfl, by rw [World.drewN_drewN]; exact below_dn (Below.refl _ _) _⟩
        subst h0
        by_cases h1 : y1 = y2
        rotate_left
        · have hq : (y1 != y2) = true := by rw [bne_iff_ne]; exact h1
          have HS := Lib.hid (HNO.out (by intro h; injection h with e1 e2 e3 e4; exact h1 e2))
          go_wp2_with fail
          go_quiet (fail)
          go_wp2_with fail
          go_ret
          exact ⟨by rw [HS.out]; rfl, by rw [World.drewN_drewN]; exact below_dn (Below.refl _ _) _⟩
        subst h1
        by_cases h2 : z1 = z2
        rotate_left
        · have hq : (z1 != z2) = true := by rw [bne_iff_ne]; exact h2
          have HS := Lib.hid (HNO.out (by intro h; injection h with e1 e2 e3 e4; exact h2 e3))
          go_wp2_with fail
          go_quiet (fail)
          go_wp2_with fail
          go_ret
          exact ⟨by rw [HS.out]; rfl, by rw [World.drewN_drewN]; exact below_dn (Below.refl _ _) _⟩
        subst h2
        by_cases h3 : l1.length = l2.length
        rotate_left
        · have hq : ((l1.length : Int) != (l2.length : Int)) = true := by rw [bne_iff_ne]; omega
          have HS := Lib.hid (HNO.out (by intro h; injection h with e1 e2 e3 e4; exact h3 (by rw [e4])))
          go_wp2_with fail
          go_quiet (fail)
          go_wp2_with fail
          go_ret
          exact ⟨by rw [HS.out]; rfl, by rw [World.drewN_drewN]; exact below_dn (Below.refl _ _) _⟩
        have hq : ((l1.length : Int) != (l2.length : Int)) = false := by rw [h3]; simp
        go_wp2_with fail
        go_quiet (fail)
        go_wp2_with fail
        clear hq
        go_loopw [6] (fun sj wj => ∃ j n : Nat, sj = .int .i64 j ∧ j ≤ l1.length ∧ l1.take j = l2.take j ∧ wj = w.drewN n) (fun sj _ => l1.length - (intOf sj).toNat)
        case atStart => exact ⟨0, _, rfl, Nat.zero_le _, by simp, (by first | rfl | exact World.drewN_drewN _ _ _)⟩
        case round =>
          obtain ⟨j, nd, rfl, hj, hp2, rfl⟩ := hrel
          have HP2 := Lib.hid hp2
          clear hp2
          by_cases hjl : j < l1.length
          · have hjl' : j < l2.length := by omega
            obtain ⟨b3, o3, rfl, hb3, p0, p1, _⟩ := decs_at HS1.out j hjl
            obtain ⟨b4, o4, rfl, hb4, q0, q1, _⟩ := decs_at HS2.out j hjl'
            have hj1 : (j : Int) < (l1.length : Int) := by omega
            have hj2 : (j : Int) < (l2.length : Int) := by omega
            have HST2 := Lib.hid (fun h => take_more HP2.out hjl hjl' h)
            have HNO2 : Hid (l1[j] ≠ l2[j] → sameB a b = false) := Lib.hid (fun h => HNO.out (by intro e; injection e with e1 e2 e3 e4; exact getE_ne hjl hjl' h e4))
            generalize l1[j] = d1 at *
            generalize l2[j] = d2 at *
            obtain ⟨s1, t1⟩ := d1
            obtain ⟨s2, t2⟩ := d2
            simp only at p0 p1 q0 q1
            by_cases g1 : s1 = s2
            · subst g1
              by_cases g2 : t1 = t2
              · subst g2
                have HN := Lib.hid (HST2.out rfl)
                go_wp2_with fail
                go_quiet (fail)
                go_wp2_with fail
                go_roundw
                case rel => exact ⟨j + 1, _, by go_num, by omega, HN.out, (by first | rfl | exact World.drewN_drewN _ _ _)⟩
                case measure => simp [intOf]; omega
              · have HF := Lib.hid (HNO2.out (by simpa using g2))
                have hq : (t1 == t2) = false := by simpa using g2
                clear g2
                go_wp2_with fail
                go_quiet (fail)
                go_wp2_with fail
                go_ret
                exact ⟨by rw [HF.out]; rfl, by rw [World.drewN_drewN]; exact below_dn (Below.refl _ _) _⟩
            · have HF := Lib.hid (HNO2.out (by simp [g1]))
              have hq : (s1 == s2) = false := by simpa using g1
              clear g1
              go_wp2_with fail
              go_quiet (fail)
              go_wp2_with fail
              go_ret
              exact ⟨by rw [HF.out]; rfl, by rw [World.drewN_drewN]; exact below_dn (Below.refl _ _) _⟩
          · obtain rfl : j = l1.length := by omega
            have HL := Lib.hid (take_all HP2.out (Nat.le_refl _) h3)
            have HN := Lib.hid (HST.out (by rw [HL.out]))
            go_wp2_with fail
            go_roundw
            case rel => exact ⟨k + 1, _, by go_num, by omega, HN.out, rfl⟩
            case measure => simp [intOf]; omega
      · have HF : Hid (sameB a b = true) := Lib.hid (by rw [take_all HP.out (by omega) HLE.out]; exact sameB_self _)
        have hd2 : decide ((k : Int) < a.length) = false := by rw [decide_eq_false_iff_not]; omega
        go_wp2_with fail
        go_ret
        exact ⟨by rw [HF.out]; rfl, below_dn (Below.refl _ _) _⟩
  · have hl1 : ((a.length : Int) != (b.length : Int)) = true := by rw [bne_iff_ne]; omega
    have HF := Lib.hid (sameB_no (a := a) (b := b) (fun h => hle (by rw [h])))
    clear hle
    go_enter Try.func20, Try.ntmps20
    go_wp2_with fail
    go_ret
    exact ⟨by rw [HF.out]; rfl, Below.refl _ _⟩
end Go.Proofs.Ythnajmfbomedlaa
