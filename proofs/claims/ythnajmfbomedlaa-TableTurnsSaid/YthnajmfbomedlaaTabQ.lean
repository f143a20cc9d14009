/- copyholdref14.place, why, Ask: the document's own answers; old memory is as it was. -/
import Derived.Test.YthnajmfbomedlaaTabRight
import Derived.Test.YthnajmfbomedlaaTabP2
set_option linter.unusedVariables false
set_option linter.unusedSimpArgs false
namespace Go.Proofs.Ythnajmfbomedlaa
open Go.RowKit Copyhold

/-- of a client's row; below 0: it has none -/
def placeR (rs : List TRow) (n : Int) : Int := match rs.findIdx? (fun r => r.client == n) with | some i => (i : Int) | none => -1
theorem placeR_some {rs : List TRow} {n : Int} {k : Nat} (hk : k < rs.length) (he : rs[k].client = n) (h : ∀ j (hj : j < rs.length), j < k → rs[j].client ≠ n) : placeR rs n = k ∧ rowAt rs n = some rs[k] := by
  have h1 : rs.findIdx? (fun r => r.client == n) = some k := by
    rw [List.findIdx?_eq_some_iff_getElem]
    exact ⟨hk, by simpa using he, fun j hj => by simpa using h j (by omega) hj⟩
  refine ⟨by unfold placeR; rw [h1], ?_⟩
  unfold rowAt
  rw [List.find?_eq_some_iff_getElem]
  exact ⟨by simpa using he, k, hk, rfl, fun j hj => by simpa using h j (by omega) hj⟩
theorem placeR_none {rs : List TRow} {n : Int} (h : ∀ j (hj : j < rs.length), rs[j].client ≠ n) : placeR rs n = -1 ∧ rowAt rs n = none := by
  have h0 : ∀ r ∈ rs, ¬ (r.client == n) = true := fun r hr => by
    obtain ⟨j, hj, rfl⟩ := List.getElem_of_mem hr
    simpa using h j hj
  refine ⟨?_, ?_⟩
  · unfold placeR
    rw [show rs.findIdx? (fun r => r.client == n) = none from List.findIdx?_eq_none_iff.2 fun r hr => by simpa using h0 r hr]
  · unfold rowAt
    rw [List.find?_eq_none]
    exact h0
/-- either way -/
theorem placeR_ways (rs : List TRow) (n : Int) : (placeR rs n = -1 ∧ rowAt rs n = none) ∨ ∃ (k : Nat) (hk : k < rs.length), placeR rs n = k ∧ rowAt rs n = some rs[k] := by
  by_cases h : ∃ k, ∃ hk : k < rs.length, rs[k].client = n
  · have hf : (rs.findIdx? (fun r => r.client == n)).isSome = true := by
      rw [List.findIdx?_isSome, List.any_eq_true]
      obtain ⟨k, hk, he⟩ := h
      exact ⟨rs[k], List.getElem_mem hk, by simpa using he⟩
    obtain ⟨k, hk⟩ := Option.isSome_iff_exists.1 hf
    obtain ⟨hl, he, hj⟩ := List.findIdx?_eq_some_iff_getElem.1 hk
    right
    have := placeR_some (rs := rs) (n := n) hl (by simpa using he) (fun j hj1 hj2 => by simpa using hj j hj2)
    exact ⟨k, hl, this⟩
  · left
    exact placeR_none fun j hj he => h ⟨j, hj, he⟩

set_option maxHeartbeats 2000000 in
theorem ref14_place (rs : List TRow) (v : Value) (n : Int) (w : World) (hr : RowsIn w v rs) (hn : rs.length ≤ 100000) (n1 : -9223372036854775808 ≤ n) (n2 : n ≤ 9223372036854775807) :
    Calls Try.prog 30 #[v, .int .i64 n] w fun e w' => e = .returned (.int .i64 (placeR rs n)) ∧ w' = w := by
  obtain ⟨A, c, rfl⟩ := SlOf.shape hr
  have HR := Lib.hid hr
  clear hr
  go_enter Try.func30, Try.ntmps30
  go_wp2_with fail
  go_loop [5] (fun si => ∃ k : Nat, si = .int .i64 k ∧ k ≤ rs.length ∧ ∀ j (hj : j < rs.length), j < k → rs[j].client ≠ n) (fun si => rs.length - (intOf si).toNat)
  case atStart => exact ⟨0, rfl, Nat.zero_le _, fun j hj h => absurd h (Nat.not_lt_zero _)⟩
  case round =>
    obtain ⟨k, rfl, hk, hall⟩ := hrel
    have HALL := Lib.hid hall
    clear hall
    by_cases hlt : k < rs.length
    · obtain ⟨b, off, A', c', rfl, hbk, k0, k1, k2, k3, hsl, hll, o1, o2, o3⟩ := HR.out.at k hlt
      by_cases he : rs[k].client = n
      · have hp := (placeR_some hlt he HALL.out).1
        have HP := Lib.hid hp
        have heb : (rs[k].client == n) = true := by simpa using he
        clear hp k1 k2 k3 hsl hll o1 o2 o3
        generalize rs[k].client = x at *
        go_wp2_with fail
        go_ret
        exact ⟨by rw [HP.out]; rfl, rfl⟩
      · have HNX := Lib.hid (show ∀ j (hj : j < rs.length), j < k + 1 → rs[j].client ≠ n from fun j hj hjk => by
          by_cases h : j < k
          · exact HALL.out j hj h
          · obtain rfl : j = k := by omega
            exact he)
        have heb : (rs[k].client == n) = false := by simpa using he
        clear k1 k2 k3 hsl hll o1 o2 o3
        generalize rs[k].client = x at *
        go_wp2_with fail
        go_round
        case rel => exact ⟨k + 1, by go_num, by omega, HNX.out⟩
        case measure => simp [intOf]; omega
    · obtain rfl : k = rs.length := by omega
      have hp := (placeR_none (rs := rs) (n := n) fun j hj => HALL.out j hj hj).1
      have HP := Lib.hid hp
      clear hp
      go_wp2_with fail
      go_ret
      exact ⟨by rw [HP.out]; rfl, rfl⟩

/-- Ask's errors that hang on the row alone -/
def whyF (rs : List TRow) (n ep sq : Int) : Int := if n < 0 ∨ ep < 1 ∨ sq < 1 then 1 else match rowAt rs n with
  | none => 6
  | some r => if ep < r.epoch then 17 else if r.epoch < ep then 6 else 0

set_option maxHeartbeats 4000000 in
theorem ref14_why (rs : List TRow) (v : Value) (n ep sq : Int) (w : World) (hr : RowsIn w v rs) (hn : rs.length ≤ 100000) (n1 : -9223372036854775808 ≤ n) (n2 : n ≤ 9223372036854775807) (e1 : -9223372036854775808 ≤ ep) (e2 : ep ≤ 9223372036854775807) (s1 : -9223372036854775808 ≤ sq) (s2 : sq ≤ 9223372036854775807) :
    Calls Try.prog 29 #[v, .int .i64 n, .int .i64 ep, .int .i64 sq] w fun e w' => e = .returned (.int .i64 (whyF rs n ep sq)) ∧ w' = w := by
  obtain ⟨A, c, rfl⟩ := SlOf.shape hr
  have HPL := Lib.hid (ref14_place rs _ n w hr hn n1 n2)
  have HR := Lib.hid hr
  clear hr
  rcases (show n < 0 ∨ 0 ≤ n ∧ ep < 1 ∨ 0 ≤ n ∧ 1 ≤ ep ∧ sq < 1 ∨ 0 ≤ n ∧ 1 ≤ ep ∧ 1 ≤ sq from by omega) with q | ⟨q, q1⟩ | ⟨q, q1, q2⟩ | ⟨q, q1, q2⟩
  · have hw : whyF rs n ep sq = 1 := by unfold whyF; rw [if_pos (by omega)]
    rw [hw]
    clear hw HPL HR
    go_enter Try.func29, Try.ntmps29
    go_wp2_with fail
    go_ret
    exact ⟨rfl, rfl⟩
  · have hw : whyF rs n ep sq = 1 := by unfold whyF; rw [if_pos (by omega)]
    rw [hw]
    clear hw HPL HR
    go_enter Try.func29, Try.ntmps29
    go_wp2_with fail
    go_ret
    exact ⟨rfl, rfl⟩
  · have hw : whyF rs n ep sq = 1 := by unfold whyF; rw [if_pos (by omega)]
    rw [hw]
    clear hw HPL HR
    go_enter Try.func29, Try.ntmps29
    go_wp2_with fail
    go_ret
    exact ⟨rfl, rfl⟩
  · have hw0 : whyF rs n ep sq = match rowAt rs n with
      | none => 6
      | some r => if ep < r.epoch then 17 else if r.epoch < ep then 6 else 0 := by unfold whyF; rw [if_neg (by omega)]
    rcases placeR_ways rs n with ⟨hp, hra⟩ | ⟨k, hk, hp, hra⟩
    · have hw : whyF rs n ep sq = 6 := by rw [hw0, hra]
      rw [hw]
      rw [hp] at HPL
      clear hw hw0 HR hp hra
      go_enter Try.func29, Try.ntmps29
      go_wp2_with fail
      refine HPL.out.mono ?_
      rintro e w1 ⟨rfl, rfl⟩
      go_wp2_with fail
      go_ret
      exact ⟨rfl, rfl⟩
    · obtain ⟨b, off, A', c', rfl, hbk, k0, k1, k2, k3, hsl, hll, o1, o2, o3⟩ := HR.out.at k hk
      rw [hp] at HPL
      rw [hra] at hw0
      simp only at hw0
      have hki : (k : Int) < (rs.length : Int) := by omega
      clear k0 k2 k3 hsl hll o1 o2 o3 hp hra
      generalize rs[k].epoch = x at *
      rcases (show ep < x ∨ ¬ ep < x ∧ x < ep ∨ ¬ ep < x ∧ ¬ x < ep from by omega) with r | ⟨r, r1⟩ | ⟨r, r1⟩
      · have hw : whyF rs n ep sq = 17 := by rw [hw0, if_pos r]
        rw [hw]
        clear hw hw0
        go_enter Try.func29, Try.ntmps29
        go_wp2_with fail
        refine HPL.out.mono ?_
        rintro e w1 ⟨rfl, rfl⟩
        go_wp2_with fail
        go_ret
        exact ⟨rfl, rfl⟩
      · have hw : whyF rs n ep sq = 6 := by rw [hw0, if_neg r, if_pos r1]
        rw [hw]
        clear hw hw0
        go_enter Try.func29, Try.ntmps29
        go_wp2_with fail
        refine HPL.out.mono ?_
        rintro e w1 ⟨rfl, rfl⟩
        go_wp2_with fail
        go_ret
        exact ⟨rfl, rfl⟩
      · have hw : whyF rs n ep sq = 0 := by rw [hw0, if_neg r, if_neg r1]
        rw [hw]
        clear hw hw0
        go_enter Try.func29, Try.ntmps29
        go_wp2_with fail
        refine HPL.out.mono ?_
        rintro e w1 ⟨rfl, rfl⟩
        go_wp2_with fail
        go_ret
        exact ⟨rfl, rfl⟩
end Go.Proofs.Ythnajmfbomedlaa
