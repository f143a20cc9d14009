/- copyholdref14.Right: it answers as the document says; old memory is as it was. Bounds of few rows and of right ones. -/
import Derived.Test.YthnajmfbomedlaaTabShown
import Derived.Test.YthnajmfbomedlaaTabP7
import Derived.IntWalk
set_option linter.unusedVariables false
set_option linter.unusedSimpArgs false
namespace Go.Proofs.Ythnajmfbomedlaa
open Go.RowKit Go.ChangeShapes Go.WideShapes Go.ChangeAt Copyhold

open Classical in
/-- are rows right? -/
noncomputable def goodB (rs : List TRow) : Bool := decide (Good rs)
open Classical in
theorem goodB_true {rs : List TRow} (h : Good rs) : goodB rs = true := decide_eq_true h
open Classical in
theorem goodB_false {rs : List TRow} (h : ¬ Good rs) : goodB rs = false := decide_eq_false h
theorem good_bounds {rs : List TRow} (h : Good rs) : rs.length ≤ 100000 ∧ ∀ r ∈ rs, r.l.length ≤ 100000 :=
  ⟨by have := h.1; omega, fun r hr => by have := (h.2.2 r hr).2.2.2.1; omega⟩
theorem few_bounds (rs : List TRow) (h : fewB rs = true) : rs.length ≤ 100000 ∧ ∀ r ∈ rs, r.l.length ≤ 100000 := by
  have h : manyK rs rs.length ≤ 400 := by simpa [fewB] using h
  refine ⟨by unfold manyK at h; omega, fun r hr => ?_⟩
  obtain ⟨i, hi, rfl⟩ := List.getElem_of_mem hr
  have h1 := manyK_step rs i hi
  have h2 := manyK_mono rs (i + 1) hi
  omega
theorem few_b (rs : List TRow) (v : Value) (w : World) (hr : RowsIn w v rs) (hn : rs.length ≤ 8796093022207) :
    Calls Try.prog 11 #[v] w fun e w' => e = .returned (.bool (fewB rs)) ∧ Below w.heap.size w w' :=
  (ref14_Few rs v w hr hn).mono fun e w' ⟨h, h2⟩ => ⟨h, h2 ▸ Below.refl _ _⟩
theorem decide_len (rs : List TRow) (n ep sq : Int) (y : Bool) (h : Good rs) : (decideF rs n ep sq y).1.length ≤ 100000 := by
  have hl := h.1
  rcases decide_ways rs n ep sq y h with ⟨h1, h2⟩ | ⟨h1, h2⟩ | ⟨h1, h2, h3⟩
  · rw [h2]; show rs.length ≤ _; omega
  · rw [h2]; show rs.length ≤ _; omega
  · rw [h2]; show (putR rs _).length ≤ _; have := h3.1; omega

theorem open_rowsb {H : Type} {enc : TypeId × Value → H} {W : World} {fuel : Nat} {cs : List Value} {x : DataW H × List MemPlace}
    (h : DataW.trod enc Try.prog W 0 (fun _ => true) true fuel 22 cs = some x) (hlt : ∀ p ∈ x.2, p.block < W.heap.size) (hw : ∀ n ∈ DataW.weights Try.prog 22 x.1, n ≤ 140737488351232) :
    ∃ (v : Value) (rs : List TRow), cs = [v] ∧ RowsIn W v rs ∧ rs.length ≤ 8796093022207 := by
  obtain ⟨v, rs, h1, h2, h3⟩ := open_rows h hlt hw
  have hsz := rows_sized Try.underlying22 h3 hw
  have hby : Try.prog.bytesOf 63 = 48 := by kernel_rfl
  rw [hby] at hsz
  exact ⟨v, rs, h1, h2, by omega⟩

/-- the first k rows are right, one after the other -/
def okUp (rs : List TRow) (k : Nat) : Prop := ∀ i (h : i < rs.length), i < k → rowOk rs i ∧ ∀ j, j < rs[i].l.length → decOk rs[i] j
def okD (r : TRow) (k : Nat) : Prop := ∀ j, j < k → decOk r j
theorem bad_row (rs : List TRow) (k : Nat) (r : TRow) (hr : rs[k]? = some r) (h : r.client < 0 ∨ r.epoch < 1 ∨ r.done < 0 ∨ 256 < r.l.length) : goodB rs = false := by
  obtain ⟨hk, rfl⟩ := List.getElem?_eq_some_iff.1 hr
  refine goodB_false fun hg => ?_
  obtain ⟨⟨_, h1, h2, h3, h4, _⟩, _⟩ := ((good_iff rs).1 hg).2 k hk
  omega
theorem bad_prev (rs : List TRow) (k : Nat) (r q : TRow) (hr : rs[k + 1]? = some r) (hq : rs[k]? = some q) (h : r.client ≤ q.client) : goodB rs = false := by
  obtain ⟨hk, rfl⟩ := List.getElem?_eq_some_iff.1 hr
  obtain ⟨hk2, rfl⟩ := List.getElem?_eq_some_iff.1 hq
  refine goodB_false fun hg => ?_
  obtain ⟨⟨_, _, _, _, _, h5⟩, _⟩ := ((good_iff rs).1 hg).2 (k + 1) hk
  have := h5 (by omega)
  have e : rs[k + 1 - 1]'(by omega) = rs[k] := rfl
  rw [e] at this
  omega
theorem bad_dec (rs : List TRow) (k : Nat) (r : TRow) (hr : rs[k]? = some r) (j : Nat) (hj : j < r.l.length) (h : r.l[j].1 ≤ r.done) : goodB rs = false := by
  obtain ⟨hk, rfl⟩ := List.getElem?_eq_some_iff.1 hr
  refine goodB_false fun hg => ?_
  obtain ⟨_, hd⟩ := ((good_iff rs).1 hg).2 k hk
  obtain ⟨_, h1, _⟩ := hd j hj
  omega
theorem bad_dprev (rs : List TRow) (k : Nat) (r : TRow) (hr : rs[k]? = some r) (j : Nat) (d q : Int × Bool) (hd : r.l[j + 1]? = some d) (hq : r.l[j]? = some q) (h : d.1 ≤ q.1) : goodB rs = false := by
  obtain ⟨hk, rfl⟩ := List.getElem?_eq_some_iff.1 hr
  obtain ⟨hj, rfl⟩ := List.getElem?_eq_some_iff.1 hd
  obtain ⟨hj2, rfl⟩ := List.getElem?_eq_some_iff.1 hq
  refine goodB_false fun hg => ?_
  obtain ⟨_, hd⟩ := ((good_iff rs).1 hg).2 k hk
  obtain ⟨_, _, h1⟩ := hd (j + 1) hj
  have := h1 (by omega)
  have e : rs[k].l[j + 1 - 1]'(by omega) = rs[k].l[j] := rfl
  rw [e] at this
  omega
theorem ok_row {rs : List TRow} {k : Nat} {r : TRow} (hr : rs[k]? = some r) (h : okUp rs k) (h1 : 0 ≤ r.client) (h2 : 1 ≤ r.epoch) (h3 : 0 ≤ r.done) (h4 : r.l.length ≤ 256) (h5 : ∀ m q, k = m + 1 → rs[m]? = some q → q.client < r.client) (h6 : okD r r.l.length) : okUp rs (k + 1) := by
  obtain ⟨hk, rfl⟩ := List.getElem?_eq_some_iff.1 hr
  intro i hi hik
  rcases Nat.lt_or_ge i k with h' | h'
  · exact h i hi h'
  · obtain rfl : i = k := by omega
    exact ⟨⟨hi, h1, h2, h3, h4, fun h0 => h5 (i - 1) _ (by omega) (List.getElem?_eq_getElem (by omega))⟩, h6⟩
theorem ok_dec {r : TRow} {j : Nat} {d : Int × Bool} (hj : r.l[j]? = some d) (h : okD r j) (h1 : r.done < d.1) (h2 : ∀ m q, j = m + 1 → r.l[m]? = some q → q.1 < d.1) : okD r (j + 1) := by
  obtain ⟨hjl, rfl⟩ := List.getElem?_eq_some_iff.1 hj
  intro i hi
  rcases Nat.lt_or_ge i j with h' | h'
  · exact h i h'
  · obtain rfl : i = j := by omega
    exact ⟨hjl, h1, fun h0 => h2 (i - 1) _ (by omega) (List.getElem?_eq_getElem (by omega))⟩
theorem ok_all {rs : List TRow} (h1 : rs.length ≤ 64) (h : okUp rs rs.length) : goodB rs = true := goodB_true ((good_iff rs).2 ⟨h1, fun i hi => h i hi hi⟩)

/-- what stands at decision j -/
theorem decs_at {w : World} {A : Option Addr} {c : Nat} {ds : List (Int × Bool)} (h : SlOf DecR w 2 (.slice A ds.length c) ds) (j : Nat) (hj : j < ds.length) :
    ∃ b off, A = some ⟨b, off, none⟩ ∧ b < w.heap.size ∧ w.cell? ⟨b, off + j * 2, none⟩ = some (.int .i64 ds[j].1) ∧ w.cell? ⟨b, off + j * 2 + 1, none⟩ = some (.bool ds[j].2) ∧ i64ok ds[j].1 := by
  obtain ⟨b, off, cs, rfl, hb, hl, ⟨rfl, hok⟩, hc⟩ := SlOf.at h j (List.getElem?_eq_getElem hj)
  refine ⟨b, off, rfl, hb, hc 0 _ rfl, ?_, hok⟩
  have := hc 1 _ rfl; rwa [← Nat.add_assoc] at this

set_option maxRecDepth 100000 in
set_option maxHeartbeats 16000000 in
theorem ref14_Right (rs : List TRow) (v : Value) (w : World) (hr : RowsIn w v rs) (hn : rs.length ≤ 100000) (hl : ∀ r ∈ rs, r.l.length ≤ 100000) :
    Calls Try.prog 12 #[v] w fun e w' => e = .returned (.bool (goodB rs)) ∧ Below w.heap.size w w' := by
  obtain ⟨A, c, rfl⟩ := SlOf.shape hr
  have HR := Lib.hid hr
  have HL := Lib.hid hl
  clear hr hl
  by_cases h64 : 64 < rs.length
  · have hfin : goodB rs = false := goodB_false fun h => by have := h.1; omega
    have HF := Lib.hid hfin
    have hd : decide ((64 : Int) < (rs.length : Int)) = true := by rw [decide_eq_true_iff]; omega
    clear hfin
    go_enter Try.func12, Try.ntmps12
    go_wp2_with fail
    go_ret
    exact ⟨by rw [HF.out]; rfl, Below.refl _ _⟩
  have hd : decide ((64 : Int) < (rs.length : Int)) = false := by rw [decide_eq_false_iff_not]; omega
  go_enter Try.func12, Try.ntmps12
  go_wp2_with fail
  go_loopw [3] (fun si wr => ∃ k : Nat, si = .int .i64 k ∧ k ≤ rs.length ∧ okUp rs k ∧ Below w.heap.size w wr) (fun si _ => rs.length - (intOf si).toNat)
  case atStart => exact ⟨0, rfl, Nat.zero_le _, fun i _ h => absurd h (by omega), Below.refl _ _⟩
  case round =>
    obtain ⟨k, rfl, hk, hup, hb⟩ := hrel
    have HUP := Lib.hid hup
    have HB := Lib.hid hb
    clear hup hd
    by_cases hlt : k < rs.length
    · obtain ⟨b, off, A', c', rfl, hbk, k0, k1, k2, k3, hsl, hll, o1, o2, o3⟩ := (HR.out.below hb).at k hlt
      have hlr := HL.out _ (List.getElem_mem hlt)
      obtain ⟨r, hre⟩ : ∃ r, rs[k] = r := ⟨_, rfl⟩
      have hrk : rs[k]? = some r := by rw [List.getElem?_eq_getElem hlt, hre]
      rw [hre] at k0 k1 k2 k3 hsl hll o1 o2 o3 hlr
      have HBR := Lib.hid (bad_row rs k r hrk)
      have HBD := Lib.hid (bad_dec rs k r hrk)
      have HBE := Lib.hid (bad_dprev rs k r hrk)
      obtain ⟨pv, hpv⟩ : ∃ pv : Int, ∀ m (e : k = m + 1), ∃ q, rs[m]? = some q ∧ pv = q.client := by
        cases k with
        | zero => exact ⟨0, fun m e => by omega⟩
        | succ m0 =>
          refine ⟨(rs[m0]'(by omega)).client, fun m e => ?_⟩
          obtain rfl : m0 = m := by omega
          exact ⟨_, List.getElem?_eq_getElem (by omega), rfl⟩
      have HPV2 : Hid (∀ m, k = m + 1 → wr.cell? ⟨b, off + m * 4, none⟩ = some (.int .i64 pv) ∧ i64ok pv) := Lib.hid fun m e => by
        obtain ⟨q, hq, rfl⟩ := hpv m e
        obtain ⟨b2, off2, A2, c2, he, _, p0, _, _, _, _, _, po, _, _⟩ := (HR.out.below hb).at m (by omega)
        simp only [Option.some.injEq, Addr.mk.injEq, and_true] at he
        obtain ⟨rfl, rfl⟩ := he
        obtain ⟨_, rfl⟩ := List.getElem?_eq_some_iff.1 hq
        exact ⟨p0, po⟩
      have HBP2 : Hid (∀ m, k = m + 1 → r.client ≤ pv → goodB rs = false) := Lib.hid fun m e h => by
        obtain ⟨q, hq, rfl⟩ := hpv m e
        subst e
        exact bad_prev rs m r q hrk hq h
      have HOK2 : Hid (∀ (_ : 0 ≤ r.client) (_ : 1 ≤ r.epoch) (_ : 0 ≤ r.done) (_ : r.l.length ≤ 256) (_ : 0 < k → pv < r.client) (_ : okD r r.l.length), okUp rs (k + 1)) := Lib.hid fun h1 h2 h3 h4 h5 h6 => ok_row hrk HUP.out h1 h2 h3 h4 (fun m q e hq => by
        obtain ⟨q', hq', e2⟩ := hpv m e
        rw [hq] at hq'
        cases hq'
        rw [← e2]
        exact h5 (by omega)) h6
      have HSL := Lib.hid hsl
      have hi1 : (k : Int) < (rs.length : Int) := by omega
      clear hpv hsl hre hrk
      obtain ⟨x, y, z, l⟩ := r
      simp only at k0 k1 k2 k3 hll o1 o2 o3 hlr HBR HBP2 HBD HBE HOK2 HSL
      have hbw := hb.size
      obtain ⟨W1, hW1⟩ : ∃ W1, W1 = wr.alloc (.cells #[.int .i64 x, .int .i64 y, .int .i64 z, .slice A' l.length c'] 63) := ⟨_, rfl⟩
      have b1 : Below wr.heap.size wr W1 := by rw [hW1]; exact (Below.refl _ _).alloc (Nat.le_refl _) _
      have q0 : W1.cell? ⟨wr.heap.size, 0, none⟩ = some (.int .i64 x) := by rw [hW1]; exact cell_new _ _ _ 0
      have q1 : W1.cell? ⟨wr.heap.size, 1, none⟩ = some (.int .i64 y) := by rw [hW1]; exact cell_new _ _ _ 1
      have q2 : W1.cell? ⟨wr.heap.size, 2, none⟩ = some (.int .i64 z) := by rw [hW1]; exact cell_new _ _ _ 2
      have q3 : W1.cell? ⟨wr.heap.size, 3, none⟩ = some (.slice A' l.length c') := by rw [hW1]; exact cell_new _ _ _ 3
      have HW1 := Lib.hid hW1
      have HB1 := Lib.hid b1
      have HBW := Lib.hid (below_trans HB.out b1 hbw)
      clear hW1
      by_cases h0 : x < 0
      · have d0 : decide (x < 0) = true := by rw [decide_eq_true_iff]; omega
        have HF := Lib.hid (HBR.out (.inl h0))
        go_wp2_with fail
        rw [← HW1.out]
        go_quiet (fail)
        go_wp2_with fail
        go_ret
        exact ⟨by rw [HF.out]; rfl, below_dn HBW.out _⟩
      by_cases h1 : y < 1
      · have d0 : decide (x < 0) = false := by rw [decide_eq_false_iff_not]; omega
        have d1 : decide (y < 1) = true := by rw [decide_eq_true_iff]; omega
        have HF := Lib.hid (HBR.out (.inr (.inl h1)))
        go_wp2_with fail
        rw [← HW1.out]
        go_quiet (fail)
        go_wp2_with fail
        go_ret
        exact ⟨by rw [HF.out]; rfl, below_dn HBW.out _⟩
      by_cases h2 : z < 0
      · have d0 : decide (x < 0) = false := by rw [decide_eq_false_iff_not]; omega
        have d1 : decide (y < 1) = false := by rw [decide_eq_false_iff_not]; omega
        have d2 : decide (z < 0) = true := by rw [decide_eq_true_iff]; omega
        have HF := Lib.hid (HBR.out (.inr (.inr (.inl h2))))
        go_wp2_with fail
        rw [← HW1.out]
        go_quiet (fail)
        go_wp2_with fail
        go_ret
        exact ⟨by rw [HF.out]; rfl, below_dn HBW.out _⟩
      by_cases h3 : 256 < l.length
      · have d0 : decide (x < 0) = false := by rw [decide_eq_false_iff_not]; omega
        have d1 : decide (y < 1) = false := by rw [decide_eq_false_iff_not]; omega
        have d2 : decide (z < 0) = false := by rw [decide_eq_false_iff_not]; omega
        have d3 : decide ((256 : Int) < (l.length : Int)) = true := by rw [decide_eq_true_iff]; omega
        have HF := Lib.hid (HBR.out (.inr (.inr (.inr h3))))
        go_wp2_with fail
        rw [← HW1.out]
        go_quiet (fail)
        go_wp2_with fail
        go_ret
        exact ⟨by rw [HF.out]; rfl, below_dn HBW.out _⟩
      have d0 : decide (x < 0) = false := by rw [decide_eq_false_iff_not]; omega
      have d1 : decide (y < 1) = false := by rw [decide_eq_false_iff_not]; omega
      have d2 : decide (z < 0) = false := by rw [decide_eq_false_iff_not]; omega
      have d3 : decide ((256 : Int) < (l.length : Int)) = false := by rw [decide_eq_false_iff_not]; omega
      rcases Nat.eq_zero_or_pos k with rfl | hkp
      · simp only [Nat.zero_mul, Nat.add_zero] at k0 k1 k2 k3
        go_wp2_with fail
        rw [← HW1.out]
        go_quiet (fail)
        go_wp2_with fail
        clear d0 d1 d2 d3
        go_loopw [5] (fun si wj => ∃ j n : Nat, si = .int .i64 j ∧ j ≤ l.length ∧ okD ⟨x, y, z, l⟩ j ∧ wj = W1.drewN n) (fun si _ => l.length - (intOf si).toNat)
        case atStart => exact ⟨0, _, rfl, Nat.zero_le _, fun j h => absurd h (by omega), rfl⟩
        case round =>
          obtain ⟨j, nd, rfl, hj, hud, rfl⟩ := hrel
          have HUD := Lib.hid hud
          clear hud
          by_cases hjl : j < l.length
          · obtain ⟨b3, off3, rfl, hb3, p0, _, po⟩ := decs_at (SlOf.below HSL.out HB1.out) j hjl
            obtain ⟨d, hde⟩ : ∃ d, l[j] = d := ⟨_, rfl⟩
            have hdj : l[j]? = some d := by rw [List.getElem?_eq_getElem hjl, hde]
            rw [hde] at p0 po
            have HD1 : Hid (d.1 ≤ z → goodB rs = false) := Lib.hid (fun h => HBD.out j hjl (by rw [hde]; exact h))
            obtain ⟨pw, hpw⟩ : ∃ pw : Int, ∀ m (e : j = m + 1), ∃ q, l[m]? = some q ∧ pw = q.1 := by
              cases j with
              | zero => exact ⟨0, fun m e => by omega⟩
              | succ m0 =>
                refine ⟨(l[m0]'(by omega)).1, fun m e => ?_⟩
                obtain rfl : m0 = m := by omega
                exact ⟨_, List.getElem?_eq_getElem (by omega), rfl⟩
            have HP2 : Hid (∀ m, j = m + 1 → W1.cell? ⟨b3, off3 + m * 2, none⟩ = some (.int .i64 pw) ∧ i64ok pw) := Lib.hid fun m e => by
              obtain ⟨q, hq, rfl⟩ := hpw m e
              obtain ⟨b4, off4, he, _, p4, _, po4⟩ := decs_at (SlOf.below HSL.out HB1.out) m (by omega)
              simp only [Option.some.injEq, Addr.mk.injEq, and_true] at he
              obtain ⟨rfl, rfl⟩ := he
              obtain ⟨_, rfl⟩ := List.getElem?_eq_some_iff.1 hq
              exact ⟨p4, po4⟩
            have HE2 : Hid (∀ m, j = m + 1 → d.1 ≤ pw → goodB rs = false) := Lib.hid fun m e h => by
              obtain ⟨q, hq, rfl⟩ := hpw m e
              subst e
              exact HBE.out m d q hdj hq h
            have HD4 : Hid (z < d.1 → (0 < j → pw < d.1) → okD ⟨x, y, z, l⟩ (j + 1)) := Lib.hid fun h1 h2 => ok_dec (r := ⟨x, y, z, l⟩) hdj HUD.out h1 (fun m q e hq => by
              obtain ⟨q', hq', e2⟩ := hpw m e
              have hq2 : l[m]? = some q := hq
              rw [hq2] at hq'
              cases hq'
              rw [← e2]
              exact h2 (by omega))
            have hj1 : (j : Int) < (l.length : Int) := by omega
            clear hpw hde hdj
            obtain ⟨s, yes⟩ := d
            simp only at HD1 HE2 HD4 p0 po
            by_cases g1 : s ≤ z
            · have HF := Lib.hid (HD1.out g1)
              have e1 : decide (s ≤ z) = true := by rw [decide_eq_true_iff]; omega
              go_wp2_with fail
              go_quiet (fail)
              go_wp2_with fail
              go_ret
              exact ⟨by rw [HF.out]; rfl, by rw [World.drewN_drewN]; exact below_dn HBW.out _⟩
            · have e1 : decide (s ≤ z) = false := by rw [decide_eq_false_iff_not]; omega
              rcases Nat.eq_zero_or_pos j with rfl | hjp
              · have HN := Lib.hid (HD4.out (by omega) (fun h => absurd h (by omega)))
                simp only [Nat.zero_mul, Nat.add_zero] at p0
                clear HD1 HE2 HD4
                go_wp2_with fail
                go_quiet (fail)
                go_wp2_with fail
                go_roundw
                case rel => exact ⟨1, _, by go_num, by omega, HN.out, by first | rfl | exact World.drewN_drewN _ _ _⟩
                case measure => simp [intOf]; omega
              · obtain ⟨m, rfl⟩ : ∃ m, j = m + 1 := ⟨j - 1, by omega⟩
                obtain ⟨p5, po5⟩ := HP2.out m rfl
                have hm0 : decide ((0 : Int) < ((m + 1 : Nat) : Int)) = true := by rw [decide_eq_true_iff]; omega
                have hms : ((m + 1 : Nat) : Int) - 1 = (m : Int) := by omega
                have hml : (m : Int) < (l.length : Int) := by omega
                by_cases g2 : s ≤ pw
                · have HF := Lib.hid (HE2.out m rfl g2)
                  have e2 : decide (s ≤ pw) = true := by rw [decide_eq_true_iff]; omega
                  go_wp2_with fail
                  go_quiet (fail)
                  go_wp2_with fail
                  go_ret
                  exact ⟨by rw [HF.out]; rfl, by rw [World.drewN_drewN]; exact below_dn HBW.out _⟩
                · have HN := Lib.hid (HD4.out (by omega) (fun _ => by omega))
                  have e2 : decide (s ≤ pw) = false := by rw [decide_eq_false_iff_not]; omega
                  clear HD1 HE2 HD4
                  go_wp2_with fail
                  go_quiet (fail)
                  go_wp2_with fail
                  go_roundw
                  case rel => exact ⟨m + 1 + 1, _, by go_num, by omega, HN.out, by first | rfl | exact World.drewN_drewN _ _ _⟩
                  case measure => simp [intOf]; omega
          · obtain rfl : j = l.length := by omega
            have HN := Lib.hid (HOK2.out (by omega) (by omega) (by omega) (by omega) (fun h => absurd h (by omega)) HUD.out)
            go_wp2_with fail
            go_roundw
            case rel => exact ⟨1, by go_num, by omega, HN.out, below_dn HBW.out _⟩
            case measure => simp [intOf]; omega
      · obtain ⟨m, rfl⟩ : ∃ m, k = m + 1 := ⟨k - 1, by omega⟩
        obtain ⟨p9, po9⟩ := HPV2.out m rfl
        have p9' := cell_keep HB1.out p9
        have hm0 : decide ((0 : Int) < ((m + 1 : Nat) : Int)) = true := by rw [decide_eq_true_iff]; omega
        have hms : ((m + 1 : Nat) : Int) - 1 = (m : Int) := by omega
        have hml : (m : Int) < (rs.length : Int) := by omega
        by_cases h4 : x ≤ pv
        · have d4 : decide (x ≤ pv) = true := by rw [decide_eq_true_iff]; omega
          have HF := Lib.hid (HBP2.out m rfl h4)
          go_wp2_with fail
          rw [← HW1.out]
          go_quiet (fail)
          go_wp2_with fail
          go_ret
          exact ⟨by rw [HF.out]; rfl, below_dn HBW.out _⟩
        · have d4 : decide (x ≤ pv) = false := by rw [decide_eq_false_iff_not]; omega
          go_wp2_with fail
          rw [← HW1.out]
          go_quiet (fail)
          go_wp2_with fail
          clear d0 d1 d2 d3 d4 p9 p9' hm0 hms hml
          go_loopw [5] (fun si wj => ∃ j n : Nat, si = .int .i64 j ∧ j ≤ l.length ∧ okD ⟨x, y, z, l⟩ j ∧ wj = W1.drewN n) (fun si _ => l.length - (intOf si).toNat)
          case atStart => exact ⟨0, _, rfl, Nat.zero_le _, fun j h => absurd h (by omega), rfl⟩
          case round =>
            obtain ⟨j, nd, rfl, hj, hud, rfl⟩ := hrel
            have HUD := Lib.hid hud
            clear hud
            by_cases hjl : j < l.length
            · obtain ⟨b3, off3, rfl, hb3, p0, _, po⟩ := decs_at (SlOf.below HSL.out HB1.out) j hjl
              obtain ⟨d, hde⟩ : ∃ d, l[j] = d := ⟨_, rfl⟩
              have hdj : l[j]? = some d := by rw [List.getElem?_eq_getElem hjl, hde]
              rw [hde] at p0 po
              have HD1 : Hid (d.1 ≤ z → goodB rs = false) := Lib.hid (fun h => HBD.out j hjl (by rw [hde]; exact h))
              obtain ⟨pw, hpw⟩ : ∃ pw : Int, ∀ m (e : j = m + 1), ∃ q, l[m]? = some q ∧ pw = q.1 := by
                cases j with
                | zero => exact ⟨0, fun m e => by omega⟩
                | succ m0 =>
                  refine ⟨(l[m0]'(by omega)).1, fun m e => ?_⟩
                  obtain rfl : m0 = m := by omega
                  exact ⟨_, List.getElem?_eq_getElem (by omega), rfl⟩
              have HP2 : Hid (∀ m, j = m + 1 → W1.cell? ⟨b3, off3 + m * 2, none⟩ = some (.int .i64 pw) ∧ i64ok pw) := Lib.hid fun m e => by
                obtain ⟨q, hq, rfl⟩ := hpw m e
                obtain ⟨b4, off4, he, _, p4, _, po4⟩ := decs_at (SlOf.below HSL.out HB1.out) m (by omega)
                simp only [Option.some.injEq, Addr.mk.injEq, and_true] at he
                obtain ⟨rfl, rfl⟩ := he
                obtain ⟨_, rfl⟩ := List.getElem?_eq_some_iff.1 hq
                exact ⟨p4, po4⟩
              have HE2 : Hid (∀ m, j = m + 1 → d.1 ≤ pw → goodB rs = false) := Lib.hid fun m e h => by
                obtain ⟨q, hq, rfl⟩ := hpw m e
                subst e
                exact HBE.out m d q hdj hq h
              have HD4 : Hid (z < d.1 → (0 < j → pw < d.1) → okD ⟨x, y, z, l⟩ (j + 1)) := Lib.hid fun h1 h2 => ok_dec (r := ⟨x, y, z, l⟩) hdj HUD.out h1 (fun m q e hq => by
                obtain ⟨q', hq', e2⟩ := hpw m e
                have hq2 : l[m]? = some q := hq
                rw [hq2] at hq'
                cases hq'
                rw [← e2]
                exact h2 (by omega))
              have hj1 : (j : Int) < (l.length : Int) := by omega
              clear hpw hde hdj
              obtain ⟨s, yes⟩ := d
              simp only at HD1 HE2 HD4 p0 po
              by_cases g1 : s ≤ z
              · have HF := Lib.hid (HD1.out g1)
                have e1 : decide (s ≤ z) = true := by rw [decide_eq_true_iff]; omega
                go_wp2_with fail
                go_quiet (fail)
                go_wp2_with fail
                go_ret
                exact ⟨by rw [HF.out]; rfl, by rw [World.drewN_drewN]; exact below_dn HBW.out _⟩
              · have e1 : decide (s ≤ z) = false := by rw [decide_eq_false_iff_not]; omega
                rcases Nat.eq_zero_or_pos j with rfl | hjp
                · have HN := Lib.hid (HD4.out (by omega) (fun h => absurd h (by omega)))
                  simp only [Nat.zero_mul, Nat.add_zero] at p0
                  clear HD1 HE2 HD4
                  go_wp2_with fail
                  go_quiet (fail)
                  go_wp2_with fail
                  go_roundw
                  case rel => exact ⟨1, _, by go_num, by omega, HN.out, by first | rfl | exact World.drewN_drewN _ _ _⟩
                  case measure => simp [intOf]; omega
                · obtain ⟨m, rfl⟩ : ∃ m, j = m + 1 := ⟨j - 1, by omega⟩
                  obtain ⟨p5, po5⟩ := HP2.out m rfl
                  have hm0 : decide ((0 : Int) < ((m + 1 : Nat) : Int)) = true := by rw [decide_eq_true_iff]; omega
                  have hms : ((m + 1 : Nat) : Int) - 1 = (m : Int) := by omega
                  have hml : (m : Int) < (l.length : Int) := by omega
                  by_cases g2 : s ≤ pw
                  · have HF := Lib.hid (HE2.out m rfl g2)
                    have e2 : decide (s ≤ pw) = true := by rw [decide_eq_true_iff]; omega
                    go_wp2_with fail
                    go_quiet (fail)
                    go_wp2_with fail
                    go_ret
                    exact ⟨by rw [HF.out]; rfl, by rw [World.drewN_drewN]; exact below_dn HBW.out _⟩
                  · have HN := Lib.hid (HD4.out (by omega) (fun _ => by omega))
                    have e2 : decide (s ≤ pw) = false := by rw [decide_eq_false_iff_not]; omega
                    clear HD1 HE2 HD4
                    go_wp2_with fail
                    go_quiet (fail)
                    go_wp2_with fail
                    go_roundw
                    case rel => exact ⟨m + 1 + 1, _, by go_num, by omega, HN.out, by first | rfl | exact World.drewN_drewN _ _ _⟩
                    case measure => simp [intOf]; omega
            · obtain rfl : j = l.length := by omega
              have HN := Lib.hid (HOK2.out (by omega) (by omega) (by omega) (by omega) (fun _ => by omega) HUD.out)
              go_wp2_with fail
              go_roundw
              case rel => exact ⟨m + 1 + 1, by go_num, by omega, HN.out, below_dn HBW.out _⟩
              case measure => simp [intOf]; omega
    · have hfin : goodB rs = true := ok_all (by omega) (by have := HUP.out; rwa [show k = rs.length from by omega] at this)
      have HF := Lib.hid hfin
      have hd2 : decide ((k : Int) < rs.length) = false := by rw [decide_eq_false_iff_not]; omega
      clear hfin
      go_wp2_with fail
      go_ret
      exact ⟨by rw [HF.out]; rfl, HB.out⟩
end Go.Proofs.Ythnajmfbomedlaa
