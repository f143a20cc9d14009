/- copyholdref14.put: a row in its place; old memory is as it was. -/
import Derived.Test.YthnajmfbomedlaaTabQ2
set_option linter.unusedVariables false
set_option linter.unusedSimpArgs false
namespace Go.Proofs.Ythnajmfbomedlaa
open Go.RowKit Copyhold

/-- a row of the call's own, of rows that lie in an earlier world -/
def Own4 (w wr : World) (base : Nat) (sl : Value) (xs : List TRow) : Prop := ∃ css, Fit (RowR w) 4 css xs ∧ wr.ownsRow base 63 4 sl xs.length css.flatten
theorem Own4.nil (w wr : World) (base : Nat) : Own4 w wr base (.slice none 0 0) [] := ⟨[], ⟨rfl, fun i cs a hc _ => by simp at hc⟩, World.ownsRow_nil _ _ _ _⟩
theorem Own4.slOf {w wr : World} {base : Nat} {sl : Value} {xs : List TRow} (h : Own4 w wr base sl xs) (hb : Below w.heap.size w wr) : RowsIn wr sl xs := by
  obtain ⟨css, h1, h2⟩ := h
  exact (h1.mono fun a cs hr => hr.below hb).slOf (Sl.of_owns h2)
theorem Own4.push {w w3 : World} {base : Nat} {sv : Value} {xs : List TRow} (h : Own4 w w3 base sv xs) (hx : xs.length ≤ 1000000) (r : TRow) (A : Option Addr) (c : Nat) (hr : RowR w r [.int .i64 r.client, .int .i64 r.epoch, .int .i64 r.done, .slice A r.l.length c]) (hbase : base ≤ w3.heap.size) :
    ∃ v' w4, (Builtin.append_ #[22, 22] 22 #[sv, .slice (some ⟨w3.heap.size, 0, none⟩) 1 1]).run Try.prog (w3.alloc (.cells #[.int .i64 r.client, .int .i64 r.epoch, .int .i64 r.done, .slice A r.l.length c] 63)) = .ok v' w4 ∧ Own4 w w4 base v' (xs ++ [r]) ∧
      (∀ b, b < base → w4.heap[b]? = w3.heap[b]?) ∧ (∀ (B : Nat) (a : World), Below B a w3 → B ≤ base → Below B a w4) := by
  obtain ⟨css, hf, ho⟩ := h
  have hsl : Sl (w3.alloc (.cells #[.int .i64 r.client, .int .i64 r.epoch, .int .i64 r.done, .slice A r.l.length c] 63)) 4 (.slice (some ⟨w3.heap.size, 0, none⟩) 1 1) 1 [.int .i64 r.client, .int .i64 r.epoch, .int .i64 r.done, .slice A r.l.length c] := sl_one (w := w3) (t := 63) [.int .i64 r.client, .int .i64 r.epoch, .int .i64 r.done, .slice A r.l.length c]
  obtain ⟨v', w4, hrun, h1, h2, _⟩ := append_sl rowElem _ base 22 sv xs.length _ (ho.alloc _) _ 1 _ hsl (fun u hu => by simp at hu; rcases hu with rfl | rfl | rfl | rfl <;> rfl) (by unfold maxLen; omega) (by omega) (by simp; omega)
  refine ⟨v', w4, hrun, ⟨css ++ [[.int .i64 r.client, .int .i64 r.epoch, .int .i64 r.done, .slice A r.l.length c]], hf.append (Fit.one rfl hr), ?_⟩, fun b hb => ?_, fun B a hb hB => ?_⟩
  · rw [List.length_append, List.flatten_append]
    simpa using h1
  · rw [h2.block b (by simp; omega) (fun e => by have := (own_block_ge ho b e.symm).1; omega)]
    exact heap_alloc_old _ _ (by omega)
  · exact (hb.alloc (Nat.le_trans hB hbase) _).grown h2 (by simp; omega) (fun g hg => Nat.le_trans hB (own_block_ge ho g hg).1)
theorem Own4.is {w wr : World} {base : Nat} {sl : Value} {xs : List TRow} (h : Own4 w wr base sl xs) : ∃ A c, sl = .slice A xs.length c := by
  obtain ⟨css, h1, h2⟩ := h
  obtain ⟨A, c, e, _⟩ := (Sl.of_owns h2).shape
  exact ⟨A, c, e⟩

def lowR (rs : List TRow) (n : Int) (k : Nat) : Prop := ∀ j (hj : j < rs.length), j < k → rs[j].client < n
def restK (rs : List TRow) (n : Int) (i k : Nat) : List TRow := ((rs.take k).drop i).filter (fun r => r.client != n)
theorem restK_start (rs : List TRow) (n : Int) (i : Nat) : restK rs n i i = [] := by
  unfold restK
  rw [List.drop_eq_nil_of_le (by rw [List.length_take]; omega)]
  rfl
theorem restK_step (rs : List TRow) (n : Int) (i k : Nat) (hi : i ≤ k) (hk : k < rs.length) : restK rs n i (k + 1) = if rs[k].client = n then restK rs n i k else restK rs n i k ++ [rs[k]] := by
  unfold restK
  rw [List.take_succ_eq_append_getElem hk, List.drop_append_of_le_length (by rw [List.length_take]; omega), List.filter_append]
  by_cases h : rs[k].client = n <;> simp [h]
theorem restK_le (rs : List TRow) (n : Int) (i k : Nat) : (restK rs n i k).length ≤ rs.length := by
  unfold restK
  refine Nat.le_trans (List.length_filter_le _ _) ?_
  rw [List.length_drop, List.length_take]
  omega
theorem put_end (x : TRow) : ∀ (rs : List TRow) (i : Nat), SrtC rs → i ≤ rs.length → lowR rs x.client i → (∀ h : i < rs.length, ¬ rs[i].client < x.client) → rs.take i ++ x :: (rs.drop i).filter (fun r => r.client != x.client) = putR rs x
  | [], i, _, _, _, _ => by simp [putR]
  | r :: rs, 0, hs, _, _, hn => by
    have hp := List.pairwise_cons.1 hs
    have h0 : ¬ r.client < x.client := hn (by simp)
    have hall : ∀ q ∈ rs, (q.client != x.client) = true := fun q hq => by have := hp.1 q hq; simp; omega
    rw [List.take_zero, List.nil_append, List.drop_zero, putR]
    by_cases h : x.client < r.client
    · rw [if_pos h, List.filter_cons_of_pos (by simp; omega), List.filter_eq_self.2 hall]
    · have he : x.client = r.client := by omega
      rw [if_neg h, if_pos he, List.filter_cons_of_neg (by simp [he]), List.filter_eq_self.2 hall]
  | r :: rs, i + 1, hs, hi, hl, hn => by
    have hp := List.pairwise_cons.1 hs
    have h0 : r.client < x.client := hl 0 (by simp) (by omega)
    rw [List.take_succ_cons, List.drop_succ_cons, putR, if_neg (by omega), if_neg (by omega), List.cons_append]
    rw [put_end x rs i hp.2 (by simpa using hi) (fun j hj hji => hl (j + 1) (by simpa using hj) (by omega)) (fun h => hn (by simpa using h))]

/-- rows that are handed back -/
def RetRows (w : World) (rs : List TRow) (e : Ending) (w' : World) : Prop := ∃ A c, e = .returned (.slice A rs.length c) ∧ RowsIn w' (.slice A rs.length c) rs ∧ Below w.heap.size w w'

set_option maxRecDepth 100000 in
set_option maxHeartbeats 16000000 in
theorem ref14_put (rs : List TRow) (v : Value) (x : TRow) (A : Option Addr) (c : Nat) (w : World) (hr : RowsIn w v rs) (hn : rs.length ≤ 100000) (hs : SrtC rs) (hx : SlOf DecR w 2 (.slice A x.l.length c) x.l) (hxl : x.l.length ≤ 8796093022207) (hok : i64ok x.client ∧ i64ok x.epoch ∧ i64ok x.done) :
    Calls Try.prog 35 #[v, .agg #[.int .i64 x.client, .int .i64 x.epoch, .int .i64 x.done, .slice A x.l.length c]] w (RetRows w (putR rs x)) := by
  obtain ⟨A0, c0, rfl⟩ := SlOf.shape hr
  have HPE := Lib.hid (fun i => put_end x rs i hs)
  have HXR := Lib.hid (show RowR w x [.int .i64 x.client, .int .i64 x.epoch, .int .i64 x.done, .slice A x.l.length c] from ⟨_, rfl, hx, hxl, hok.1, hok.2.1, hok.2.2⟩)
  obtain ⟨⟨x1, x2⟩, _, _⟩ := hok
  obtain ⟨W1, hW1⟩ : ∃ W1, W1 = w.alloc (.cells #[.int .i64 x.client, .int .i64 x.epoch, .int .i64 x.done, .slice A x.l.length c] 63) := ⟨_, rfl⟩
  have HT1 := Lib.hid (show TBox W1 w.heap.size 63 #[.int .i64 x.client, .int .i64 x.epoch, .int .i64 x.done, .slice A x.l.length c] from by rw [hW1]; exact TBox.new _ _ _)
  have HB1 := Lib.hid (show Below w.heap.size w W1 from by rw [hW1]; exact (Below.refl _ _).alloc (Nat.le_refl _) _)
  have HW1 := Lib.hid hW1
  have HR := Lib.hid hr
  clear hr hs hx hxl hW1
  go_enter Try.func35, Try.ntmps35
  go_wp2_with fail
  rw [← HW1.out]
  go_loopw [5, 6] (fun sl si wr => ∃ k : Nat, si = .int .i64 k ∧ k ≤ rs.length ∧ lowR rs x.client k ∧ Own4 w wr (w.heap.size + 1) sl (rs.take k) ∧ TBox wr w.heap.size 63 #[.int .i64 x.client, .int .i64 x.epoch, .int .i64 x.done, .slice A x.l.length c] ∧ Below w.heap.size w wr) (fun _ si _ => rs.length - (intOf si).toNat)
  case atStart => exact ⟨0, rfl, Nat.zero_le _, fun j hj h => absurd h (Nat.not_lt_zero _), Own4.nil _ _ _, HT1.out, HB1.out⟩
  case round =>
    obtain ⟨k, rfl, hk, hlow, hown, ht, hb⟩ := hrel
    have HX := Lib.hid (And.intro hlow (And.intro hown (And.intro ht hb)))
    have p0 : wr.cell? ⟨w.heap.size, 0, none⟩ = some (.int .i64 x.client) := ht.cell 0
    have p1 : wr.cell? ⟨w.heap.size, 1, none⟩ = some (.int .i64 x.epoch) := ht.cell 1
    have p2 : wr.cell? ⟨w.heap.size, 2, none⟩ = some (.int .i64 x.done) := ht.cell 2
    have p3 : wr.cell? ⟨w.heap.size, 3, none⟩ = some (.slice A x.l.length c) := ht.cell 3
    have hsw : w.heap.size < wr.heap.size := ht.lt
    clear hlow hown ht hb
    by_cases hgo : ∃ hlt : k < rs.length, rs[k].client < x.client
    · obtain ⟨hlt, hless⟩ := hgo
      obtain ⟨b, off, A', c', rfl, hbk, k0, k1, k2, k3, hsl, hll, o1, o2, o3⟩ := (HR.out.below HX.out.2.2.2).at k hlt
      have hRR : RowR w rs[k] [.int .i64 rs[k].client, .int .i64 rs[k].epoch, .int .i64 rs[k].done, .slice A' rs[k].l.length c'] := by
        obtain ⟨b', off', cs, he, hb', hl', ⟨lv, rfl, hsl', hll', h1, h2, h3⟩, hc⟩ := SlOf.at HR.out k (List.getElem?_eq_getElem hlt)
        simp only [Option.some.injEq, Addr.mk.injEq, and_true] at he
        obtain ⟨rfl, rfl⟩ := he
        have hq := cell_keep HX.out.2.2.2 (hc 3 _ rfl)
        rw [← Nat.add_assoc, k3] at hq
        simp only [Option.some.injEq] at hq
        subst hq
        exact ⟨_, rfl, hsl', hll', h1, h2, h3⟩
      have HRR := Lib.hid hRR
      have HST := Lib.hid (show rs.take (k + 1) = rs.take k ++ [rs[k]] from List.take_succ_eq_append_getElem hlt)
      have HLW := Lib.hid (show lowR rs x.client (k + 1) from fun j hj hjk => by
        by_cases h : j < k
        · exact HX.out.1 j hj h
        · obtain rfl : j = k := by omega
          exact hless)
      have hlk : (rs.take k).length ≤ 1000000 := by rw [List.length_take]; omega
      have hki : (k : Int) < (rs.length : Int) := by omega
      have d0 : decide ((k : Int) < (rs.length : Int)) = true := by rw [decide_eq_true_iff]; omega
      have d1 : decide (rs[k].client < x.client) = true := by rw [decide_eq_true_iff]; omega
      clear hRR hsl hll
      generalize rs[k] = r at *
      obtain ⟨rc, re, rd, rl⟩ := r
      simp only at k0 k1 k2 k3 o1 o2 o3 d1 hless
      go_wp2_with fail
      go_quiet (fail)
      obtain ⟨v', w4, hrun, hO4, hk4, hb4⟩ := Own4.push (w3 := wr.drewN nq) (show Own4 w (wr.drewN nq) _ _ _ from HX.out.2.1) hlk _ A' c' HRR.out (show w.heap.size + 1 ≤ wr.heap.size from hsw)
      have HY := Lib.hid (show Own4 w w4 (w.heap.size + 1) v' (rs.take (k + 1)) ∧ TBox w4 w.heap.size 63 #[.int .i64 x.client, .int .i64 x.epoch, .int .i64 x.done, .slice A x.l.length c] ∧ Below w.heap.size w w4 from ⟨by rw [HST.out]; exact hO4, by
        have := HX.out.2.2.1
        unfold TBox at this ⊢
        rw [hk4 _ (by omega)]
        exact this, hb4 _ _ (below_dn HX.out.2.2.2 nq) (by omega)⟩)
      clear hO4 hk4 hb4
      simp only at hrun
      go_wp2_with (at_builtin; refine wpList_append_run rfl _ _ _ rfl _ _ _ _ rfl rfl hrun ?_)
      go_roundw
      case rel => exact ⟨k + 1, by go_num, by omega, HLW.out, HY.out.1, HY.out.2.1, HY.out.2.2⟩
      case measure => simp [intOf]; omega
    · have HEND := Lib.hid (HPE.out k hk HX.out.1 (fun h => by
        by_cases h2 : rs[k].client < x.client
        · exact absurd ⟨h, h2⟩ hgo
        · omega))
      have hlk : (rs.take k).length ≤ 1000000 := by rw [List.length_take]; omega
      by_cases hlt : k < rs.length
      · have hnl : ¬ rs[k].client < x.client := fun h => hgo ⟨hlt, h⟩
        obtain ⟨b, off, A', c', rfl, hbk, k0, k1, k2, k3, hsl, hll, o1, o2, o3⟩ := (HR.out.below HX.out.2.2.2).at k hlt
        have hki : (k : Int) < (rs.length : Int) := by omega
        have d0 : decide ((k : Int) < (rs.length : Int)) = true := by rw [decide_eq_true_iff]; omega
        have d1 : decide (rs[k].client < x.client) = false := by rw [decide_eq_false_iff_not]; omega
        clear hsl hll hgo k1 k2 k3 o1 o2 o3 hnl
        generalize rs[k].client = rc at *
        go_wp2_with fail
        go_quiet (fail)
        obtain ⟨v', w4, hrun, hO4, hk4, hb4⟩ := Own4.push (w3 := wr.drewN nq) (show Own4 w (wr.drewN nq) _ _ _ from HX.out.2.1) hlk x A c HXR.out (show w.heap.size + 1 ≤ wr.heap.size from hsw)
        have HY := Lib.hid (show Own4 w w4 (w.heap.size + 1) v' (rs.take k ++ [x]) ∧ TBox w4 w.heap.size 63 #[.int .i64 x.client, .int .i64 x.epoch, .int .i64 x.done, .slice A x.l.length c] ∧ Below w.heap.size w w4 from ⟨hO4, by
          have := HX.out.2.2.1
          unfold TBox at this ⊢
          rw [hk4 _ (by omega)]
          exact this, hb4 _ _ (below_dn HX.out.2.2.2 nq) (by omega)⟩)
        clear hO4 hk4 hb4
        go_wp2_with (at_builtin; refine wpList_append_run rfl _ _ _ rfl _ _ _ _ rfl rfl hrun ?_)
        clear p0 p1 p2 p3 hrun hsw
        go_loopw [5, 6] (fun sl si wr => ∃ m : Nat, si = .int .i64 m ∧ k ≤ m ∧ m ≤ rs.length ∧ Own4 w wr (w.heap.size + 1) sl (rs.take k ++ x :: restK rs x.client k m) ∧ TBox wr w.heap.size 63 #[.int .i64 x.client, .int .i64 x.epoch, .int .i64 x.done, .slice A x.l.length c] ∧ Below w.heap.size w wr) (fun _ si _ => rs.length - (intOf si).toNat)
        case atStart => exact ⟨k, rfl, Nat.le_refl _, hk, by rw [restK_start]; exact HY.out.1, HY.out.2.1, HY.out.2.2⟩
        case round =>
          clear HY HX
          obtain ⟨m, rfl, hkm, hm, hown, ht, hb⟩ := hrel
          have HX := Lib.hid (And.intro hown (And.intro ht hb))
          have p0 : wr.cell? ⟨w.heap.size, 0, none⟩ = some (.int .i64 x.client) := ht.cell 0
          have hsw : w.heap.size < wr.heap.size := ht.lt
          have hlm : (rs.take k ++ x :: restK rs x.client k m).length ≤ 1000000 := by
            have := restK_le rs x.client k m
            rw [List.length_append, List.length_cons, List.length_take]
            omega
          clear hown ht hb
          by_cases hlt2 : m < rs.length
          · obtain ⟨b2, off2, A2, c2, hA2, hbk2, k0, k1, k2, k3, hsl, hll, o1, o2, o3⟩ := (HR.out.below HX.out.2.2).at m hlt2
            simp only [Option.some.injEq, Addr.mk.injEq, and_true] at hA2
            obtain ⟨rfl, rfl⟩ := hA2
            have hRR : RowR w rs[m] [.int .i64 rs[m].client, .int .i64 rs[m].epoch, .int .i64 rs[m].done, .slice A2 rs[m].l.length c2] := by
              obtain ⟨b', off', cs, he, hb', hl', ⟨lv, rfl, hsl', hll', h1, h2, h3⟩, hc⟩ := SlOf.at HR.out m (List.getElem?_eq_getElem hlt2)
              simp only [Option.some.injEq, Addr.mk.injEq, and_true] at he
              obtain ⟨rfl, rfl⟩ := he
              have hq := cell_keep HX.out.2.2 (hc 3 _ rfl)
              rw [← Nat.add_assoc, k3] at hq
              simp only [Option.some.injEq] at hq
              subst hq
              exact ⟨_, rfl, hsl', hll', h1, h2, h3⟩
            have HRR := Lib.hid hRR
            have hst := restK_step rs x.client k m hkm hlt2
            have hmi : (m : Int) < (rs.length : Int) := by omega
            clear hRR hsl hll
            generalize rs[m] = r at *
            obtain ⟨rc, re, rd, rl⟩ := r
            simp only at k0 k1 k2 k3 o1 o2 o3 hst
            by_cases he : rc = x.client
            · rw [if_pos he] at hst
              have HST := Lib.hid hst
              have heb : (rc == x.client) = true := by simpa using he
              have heb2 : (rc != x.client) = false := by simp [he]
              have hed : decide (rc = x.client) = true := by simpa using he
              clear hst
              go_wp2_with fail
              go_quiet (fail)
              go_wp2_with fail
              go_roundw
              case rel => exact ⟨m + 1, by go_num, by omega, by omega, by rw [HST.out]; exact HX.out.1, HX.out.2.1, below_dn HX.out.2.2 _⟩
              case measure => simp [intOf]; omega
            · rw [if_neg he] at hst
              have HST := Lib.hid hst
              have heb : (rc == x.client) = false := by simpa using he
              have heb2 : (rc != x.client) = true := by simp [he]
              have hed : decide (rc = x.client) = false := by simpa using he
              clear hst
              go_wp2_with fail
              go_quiet (fail)
              obtain ⟨v', w4, hrun, hO4, hk4, hb4⟩ := Own4.push (w3 := wr.drewN nq) (show Own4 w (wr.drewN nq) _ _ _ from HX.out.1) hlm _ A2 c2 HRR.out (show w.heap.size + 1 ≤ wr.heap.size from hsw)
              have HY := Lib.hid (show Own4 w w4 (w.heap.size + 1) v' (rs.take k ++ x :: restK rs x.client k (m + 1)) ∧ TBox w4 w.heap.size 63 #[.int .i64 x.client, .int .i64 x.epoch, .int .i64 x.done, .slice A x.l.length c] ∧ Below w.heap.size w w4 from ⟨by rw [HST.out, ← List.cons_append, ← List.append_assoc]; exact hO4, by
                have := HX.out.2.1
                unfold TBox at this ⊢
                rw [hk4 _ (by omega)]
                exact this, hb4 _ _ (below_dn HX.out.2.2 nq) (by omega)⟩)
              clear hO4 hk4 hb4
              simp only at hrun
              go_wp2_with (at_builtin; refine wpList_append_run rfl _ _ _ rfl _ _ _ _ rfl rfl hrun ?_)
              go_roundw
              case rel => exact ⟨m + 1, by go_num, by omega, by omega, HY.out.1, HY.out.2.1, HY.out.2.2⟩
              case measure => simp [intOf]; omega
          · have hfin : rs.take k ++ x :: restK rs x.client k m = putR rs x := by
              rw [← HEND.out]
              unfold restK
              rw [List.take_of_length_le (show rs.length ≤ m by omega)]
            have hown := HX.out.1
            rw [hfin] at hown
            obtain ⟨A5, c5, rfl⟩ := hown.is
            have HO := Lib.hid (And.intro (hown.slOf HX.out.2.2) HX.out.2.2)
            clear hfin hown
            go_wp2_with fail
            go_ret
            exact ⟨_, _, rfl, HO.out⟩
      · have hki : ¬ (k : Int) < (rs.length : Int) := by omega
        have d0 : decide ((k : Int) < (rs.length : Int)) = false := by rw [decide_eq_false_iff_not]; omega
        clear hgo
        go_wp2_with fail
        go_quiet (fail)
        obtain ⟨v', w4, hrun, hO4, hk4, hb4⟩ := Own4.push (w3 := wr.drewN nq) (show Own4 w (wr.drewN nq) _ _ _ from HX.out.2.1) hlk x A c HXR.out (show w.heap.size + 1 ≤ wr.heap.size from hsw)
        have HY := Lib.hid (show Own4 w w4 (w.heap.size + 1) v' (rs.take k ++ [x]) ∧ TBox w4 w.heap.size 63 #[.int .i64 x.client, .int .i64 x.epoch, .int .i64 x.done, .slice A x.l.length c] ∧ Below w.heap.size w w4 from ⟨hO4, by
          have := HX.out.2.2.1
          unfold TBox at this ⊢
          rw [hk4 _ (by omega)]
          exact this, hb4 _ _ (below_dn HX.out.2.2.2 nq) (by omega)⟩)
        clear hO4 hk4 hb4
        go_wp2_with (at_builtin; refine wpList_append_run rfl _ _ _ rfl _ _ _ _ rfl rfl hrun ?_)
        clear p0 p1 p2 p3 hrun hsw
        go_loopw [5, 6] (fun sl si wr => ∃ m : Nat, si = .int .i64 m ∧ k ≤ m ∧ m ≤ rs.length ∧ Own4 w wr (w.heap.size + 1) sl (rs.take k ++ x :: restK rs x.client k m) ∧ TBox wr w.heap.size 63 #[.int .i64 x.client, .int .i64 x.epoch, .int .i64 x.done, .slice A x.l.length c] ∧ Below w.heap.size w wr) (fun _ si _ => rs.length - (intOf si).toNat)
        case atStart => exact ⟨k, rfl, Nat.le_refl _, hk, by rw [restK_start]; exact HY.out.1, HY.out.2.1, HY.out.2.2⟩
        case round =>
          clear HY HX
          obtain ⟨m, rfl, hkm, hm, hown, ht, hb⟩ := hrel
          have HX := Lib.hid (And.intro hown (And.intro ht hb))
          have p0 : wr.cell? ⟨w.heap.size, 0, none⟩ = some (.int .i64 x.client) := ht.cell 0
          have hsw : w.heap.size < wr.heap.size := ht.lt
          have hlm : (rs.take k ++ x :: restK rs x.client k m).length ≤ 1000000 := by
            have := restK_le rs x.client k m
            rw [List.length_append, List.length_cons, List.length_take]
            omega
          clear hown ht hb
          have hlt2 : ¬ m < rs.length := by omega
          have hfin : rs.take k ++ x :: restK rs x.client k m = putR rs x := by
            rw [← HEND.out]
            unfold restK
            rw [List.take_of_length_le (show rs.length ≤ m by omega)]
          have hown := HX.out.1
          rw [hfin] at hown
          obtain ⟨A5, c5, rfl⟩ := hown.is
          have HO := Lib.hid (And.intro (hown.slOf HX.out.2.2) HX.out.2.2)
          clear hfin hown
          go_wp2_with fail
          go_ret
          exact ⟨_, _, rfl, HO.out⟩
end Go.Proofs.Ythnajmfbomedlaa
