/- copyholdref14.Ask: the document's own answer; old memory is as it was. -/
import Derived.Test.YthnajmfbomedlaaTabQ
import Derived.Test.YthnajmfbomedlaaTabP3
import Derived.Test.YthnajmfbomedlaaTaking
set_option linter.unusedVariables false
set_option linter.unusedSimpArgs false
namespace Go.Proofs.Ythnajmfbomedlaa
open Go.RowKit Copyhold

def askR (rs : List TRow) (n ep sq : Int) : Bool × Int := if whyF rs n ep sq ≠ 0 then (false, whyF rs n ep sq) else match rowAt rs n with
  | none => (false, 6)
  | some r => if sq ≤ r.done then (false, 18) else match decAt r.l sq with
    | none => (false, 6)
    | some d => (d.2, 0)
theorem askR_eq {rs : List TRow} (h : Good rs) (n ep sq : Int) : askR rs n ep sq = askF rs n ep sq := by
  rw [ask_row rs n ep sq h.2.1 (fun r hr => (h.2.2 r hr).2.2.2.2.1)]
  unfold askR whyF
  by_cases h0 : n < 0 ∨ ep < 1 ∨ sq < 1
  · simp only [if_pos h0]; rfl
  · simp only [if_neg h0]
    cases hr : rowAt rs n with
    | none => rfl
    | some r =>
      simp only
      by_cases h1 : ep < r.epoch
      · simp [h1]
      · by_cases h2 : r.epoch < ep
        · simp [h1, h2]
        · simp only [if_neg h1, if_neg h2]
          by_cases h3 : sq ≤ r.done
          · simp [h3]
          · simp only [if_neg h3]
            cases decAt r.l sq <;> simp
theorem whyF_bd (rs : List TRow) (n ep sq : Int) : 0 ≤ whyF rs n ep sq ∧ whyF rs n ep sq ≤ 17 := by
  unfold whyF
  split
  · omega
  · split
    · omega
    · split
      · omega
      · split <;> omega
theorem whyF_zero {rs : List TRow} {n ep sq : Int} (h : whyF rs n ep sq = 0) : ∃ r, rowAt rs n = some r ∧ r.epoch = ep ∧ 0 ≤ n ∧ 1 ≤ ep ∧ 1 ≤ sq := by
  unfold whyF at h
  split at h
  · simp at h
  · rename_i h0
    cases hr : rowAt rs n with
    | none => rw [hr] at h; simp at h
    | some r =>
      rw [hr] at h
      simp only at h
      refine ⟨r, rfl, ?_, by omega, by omega, by omega⟩
      split at h
      · simp at h
      · split at h
        · simp at h
        · omega
theorem decAt_first {l : List (Int × Bool)} {s : Int} {j : Nat} (hj : j < l.length) (he : l[j].1 = s) (h : ∀ i (hi : i < l.length), i < j → l[i].1 ≠ s) : decAt l s = some l[j] := by
  unfold decAt
  rw [List.find?_eq_some_iff_getElem]
  exact ⟨by simpa using he, j, hj, rfl, fun i hi => by simpa using h i (by omega) hi⟩
theorem decAt_no {l : List (Int × Bool)} {s : Int} (h : ∀ i (hi : i < l.length), l[i].1 ≠ s) : decAt l s = none := by
  unfold decAt
  rw [List.find?_eq_none]
  intro d hd
  obtain ⟨j, hj, rfl⟩ := List.getElem_of_mem hd
  simpa using h j hj

set_option maxRecDepth 100000 in
set_option maxHeartbeats 8000000 in
theorem ref14_Ask (rs : List TRow) (v : Value) (n ep sq : Int) (w : World) (hr : RowsIn w v rs) (hn : rs.length ≤ 100000) (n1 : -9223372036854775808 ≤ n) (n2 : n ≤ 9223372036854775807) (e1 : -9223372036854775808 ≤ ep) (e2 : ep ≤ 9223372036854775807) (s1 : -9223372036854775808 ≤ sq) (s2 : sq ≤ 9223372036854775807) :
    Calls Try.prog 15 #[v, .int .i64 n, .int .i64 ep, .int .i64 sq] w fun e w' => e = .returned (.tuple #[.bool (askR rs n ep sq).1, .int .i64 (askR rs n ep sq).2]) ∧ Below w.heap.size w w' := by
  obtain ⟨A, c, rfl⟩ := SlOf.shape hr
  have HWY := Lib.hid (ref14_why rs _ n ep sq w hr hn n1 n2 e1 e2 s1 s2)
  have HPL := Lib.hid (ref14_place rs _ n w hr hn n1 n2)
  have HR := Lib.hid hr
  clear hr
  by_cases hz : whyF rs n ep sq = 0
  · rw [hz] at HWY
    obtain ⟨r, hra, hre, _, _, _⟩ := whyF_zero hz
    rcases placeR_ways rs n with ⟨hp, hra2⟩ | ⟨k, hk, hp, hra2⟩
    · rw [hra] at hra2; cases hra2
    obtain rfl : r = rs[k] := by rw [hra] at hra2; injection hra2
    have hA0 : askR rs n ep sq = (if sq ≤ rs[k].done then ((false, 18) : Bool × Int) else match decAt rs[k].l sq with
      | none => ((false, 6) : Bool × Int)
      | some d => (d.2, 0)) := by unfold askR; rw [if_neg (by simpa using hz), hra]
    rw [hp] at HPL
    obtain ⟨b, off, A', c', rfl, hbk, k0, k1, k2, k3, hsl, hll, o1, o2, o3⟩ := HR.out.at k hk
    have hki : (k : Int) < (rs.length : Int) := by omega
    clear hp hra hra2 hz hre
    generalize rs[k] = r at *
    obtain ⟨rc, rep, rd, rl⟩ := r
    simp only at hA0 k0 k1 k2 k3 hsl hll o1 o2 o3
    have HSL := Lib.hid hsl
    clear hsl
    by_cases hd : sq ≤ rd
    · have hA : askR rs n ep sq = (false, 18) := by rw [hA0, if_pos hd]
      rw [hA]
      clear hA hA0
      go_enter Try.func15, Try.ntmps15
      go_wp2_with fail
      refine HWY.out.mono ?_
      rintro e w1 ⟨rfl, rfl⟩
      go_wp2_with fail
      refine HPL.out.mono ?_
      rintro e w2 ⟨rfl, rfl⟩
      go_wp2_with fail
      refine bodyPost_ret (v := .tuple #[.bool false, .int .i64 18]) (by simp [results, Try.results15, go_sem]) rfl ⟨rfl, (Below.refl _ _).alloc (Nat.le_refl _) _⟩
    · have hA1 : askR rs n ep sq = (match decAt rl sq with
        | none => ((false, 6) : Bool × Int)
        | some d => (d.2, 0)) := by rw [hA0, if_neg hd]
      clear hA0
      go_enter Try.func15, Try.ntmps15
      go_wp2_with fail
      refine HWY.out.mono ?_
      rintro e w1 ⟨rfl, rfl⟩
      go_wp2_with fail
      refine HPL.out.mono ?_
      rintro e w2 ⟨rfl, rfl⟩
      obtain ⟨W1, hW1⟩ : ∃ W, W = w2.alloc (.cells #[.int .i64 rc, .int .i64 rep, .int .i64 rd, .slice A' rl.length c'] 63) := ⟨_, rfl⟩
      have hb1 : Below w2.heap.size w2 W1 := by rw [hW1]; exact (Below.refl _ _).alloc (Nat.le_refl _) _
      have HT1 := Lib.hid (show TBox W1 w2.heap.size 63 #[.int .i64 rc, .int .i64 rep, .int .i64 rd, .slice A' rl.length c'] from by rw [hW1]; exact TBox.new _ _ _)
      have HS1 := Lib.hid (HSL.out.below hb1)
      have HB1 := Lib.hid hb1
      have HW1 := Lib.hid hW1
      clear hW1 hb1
      have hrl : rl.length ≤ 8796093022207 := hll
      go_wp2_with fail
      rw [← HW1.out]
      go_loop [12] (fun si => ∃ j : Nat, si = .int .i64 j ∧ j ≤ rl.length ∧ ∀ i (hi : i < rl.length), i < j → rl[i].1 ≠ sq) (fun si => rl.length - (intOf si).toNat)
      case atStart => exact ⟨0, rfl, Nat.zero_le _, fun j hj h => absurd h (Nat.not_lt_zero _)⟩
      case round =>
        obtain ⟨j, rfl, hj, hall⟩ := hrel
        have HALL := Lib.hid hall
        have t3 : W1.cell? ⟨w2.heap.size, 3, none⟩ = some (.slice A' rl.length c') := HT1.out.cell 3
        clear hall
        by_cases hlt : j < rl.length
        · obtain ⟨b2, off2, rfl, hbk2, d0, d1, od⟩ := decs_at HS1.out j hlt
          have hji : (j : Int) < (rl.length : Int) := by omega
          by_cases he : rl[j].1 = sq
          · have hA : askR rs n ep sq = (rl[j].2, 0) := by rw [hA1, decAt_first hlt he HALL.out]
            have HA := Lib.hid hA
            have heb : (rl[j].1 == sq) = true := by simpa using he
            clear hA hA1
            generalize rl[j] = x at *
            obtain ⟨xs, xy⟩ := x
            simp only at d0 d1 heb HA he
            go_wp2_with fail
            refine bodyPost_ret (v := .tuple #[.bool xy, .int .i64 0]) (by simp [results, Try.results15, go_sem]) rfl ⟨by rw [HA.out], HB1.out⟩
          · have HNX := Lib.hid (show ∀ i (hi : i < rl.length), i < j + 1 → rl[i].1 ≠ sq from fun i hi hij => by
              by_cases h : i < j
              · exact HALL.out i hi h
              · obtain rfl : i = j := by omega
                exact he)
            have heb : (rl[j].1 == sq) = false := by simpa using he
            generalize rl[j] = x at *
            obtain ⟨xs, xy⟩ := x
            simp only at d0 d1 heb he
            go_wp2_with fail
            go_round
            case rel => exact ⟨j + 1, by go_num, by omega, HNX.out⟩
            case measure => simp [intOf]; omega
        · obtain rfl : j = rl.length := by omega
          have hA : askR rs n ep sq = (false, 6) := by rw [hA1, decAt_no (fun i hi => HALL.out i hi hi)]
          have HA := Lib.hid hA
          clear hA hA1
          go_wp2_with fail
          refine bodyPost_ret (v := .tuple #[.bool false, .int .i64 6]) (by simp [results, Try.results15, go_sem]) rfl ⟨by rw [HA.out], HB1.out⟩
  · have hA : askR rs n ep sq = (false, whyF rs n ep sq) := by unfold askR; rw [if_pos hz]
    rw [hA]
    have hbd := whyF_bd rs n ep sq
    have hne : (whyF rs n ep sq != 0) = true := by simpa using hz
    generalize whyF rs n ep sq = y at *
    clear hA hz
    go_enter Try.func15, Try.ntmps15
    go_wp2_with fail
    refine HWY.out.mono ?_
    rintro e w1 ⟨rfl, rfl⟩
    go_wp2_with fail
    refine bodyPost_ret (v := .tuple #[.bool false, .int .i64 y]) (by simp [results, Try.results15, go_sem]) rfl ⟨rfl, Below.refl _ _⟩
end Go.Proofs.Ythnajmfbomedlaa
