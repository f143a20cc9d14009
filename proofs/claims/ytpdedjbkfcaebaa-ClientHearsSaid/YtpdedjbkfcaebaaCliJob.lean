/- Rows of calls, and of jobs: slices.Equal, copyholdref18.calls, client.Same's own, slices.EqualFunc tell whether two are the same. Old memory is as it was. -/
import Derived.Test.YtpdedjbkfcaebaaCliCal
set_option linter.unusedVariables false
set_option linter.unusedSimpArgs false
namespace Go.Proofs.Ytpdedjbkfcaebaa
open Go.RowKit Copyhold
set_option maxRecDepth 100000 in
set_option maxHeartbeats 4000000 in
theorem cals_Equal (a b : List Cal) (v u : Value) (w : World) (ha : CalsIn w v a) (hb : CalsIn w u b) (na : a.length ≤ 8796093022207) (nb : b.length ≤ 8796093022207) :
    Calls Try.prog 38 #[v, u] w fun e w' => e = .returned (.bool (decide (a = b))) ∧ Below w.heap.size w w' := by
  obtain ⟨A, c, rfl⟩ := SlOf.shape ha
  obtain ⟨B, d, rfl⟩ := SlOf.shape hb
  have HA := Lib.hid ha
  have HB := Lib.hid hb
  clear ha hb
  by_cases hle : a.length = b.length
  · have hl1 : ((a.length : Int) != (b.length : Int)) = false := by rw [hle]; simp
    have HLE := Lib.hid hle
    clear hle
    go_enter Try.func38, Try.ntmps38
    go_wp2_with fail
    go_loopw [13] (fun si wr => ∃ k : Nat, si = .int .i64 k ∧ k ≤ a.length ∧ a.take k = b.take k ∧ Below w.heap.size w wr) (fun si _ => a.length - (intOf si).toNat)
    case atStart => exact ⟨0, rfl, Nat.zero_le _, by simp, Below.refl _ _⟩
    case round =>
      obtain ⟨k, rfl, hk, hp, hb⟩ := hrel
      have HP := Lib.hid (And.intro hp hb)
      have hbs := hb.size
      clear hp hl1 hb
      by_cases hlt : k < a.length
      · have hlt' : k < b.length := by have := HLE.out; omega
        have hi1 : (k : Int) < (a.length : Int) := by omega
        have hi2 : (k : Int) < (b.length : Int) := by omega
        have HST := Lib.hid (fun h => take_more HP.out.1 hlt hlt' h)
        have HNO := Lib.hid (fun h => (decide_eq_false (getE_ne hlt hlt' h) : decide (a = b) = false))
        obtain ⟨b1, o1, rfl, hb1, q1, ok1⟩ := (HA.out.below HP.out.2).at k hlt
        obtain ⟨b2, o2, rfl, hb2, q2, ok2⟩ := (HB.out.below HP.out.2).at k hlt'
        generalize a[k] = x at *
        generalize b[k] = y at *
        have k0 : wr.cell? ⟨b1, o1 + k * 8, none⟩ = some (.int .i64 x.kind) := q1 0 _ rfl
        have k1 : wr.cell? ⟨b1, o1 + k * 8 + 1, none⟩ = some (.int .i64 x.ino) := q1 1 _ rfl
        have k2 : wr.cell? ⟨b1, o1 + k * 8 + 2, none⟩ = some (.int .i64 x.dest) := q1 2 _ rfl
        have k3 : wr.cell? ⟨b1, o1 + k * 8 + 3, none⟩ = some (.int .i64 x.pos) := q1 3 _ rfl
        have k4 : wr.cell? ⟨b1, o1 + k * 8 + 4, none⟩ = some (.int .i64 x.many) := q1 4 _ rfl
        have k5 : wr.cell? ⟨b1, o1 + k * 8 + 5, none⟩ = some (.string ⟨x.name.toArray⟩) := q1 5 _ rfl
        have k6 : wr.cell? ⟨b1, o1 + k * 8 + 6, none⟩ = some (.string ⟨x.name2.toArray⟩) := q1 6 _ rfl
        have k7 : wr.cell? ⟨b1, o1 + k * 8 + 7, none⟩ = some (.string ⟨x.text.toArray⟩) := q1 7 _ rfl
        have m0 : wr.cell? ⟨b2, o2 + k * 8, none⟩ = some (.int .i64 y.kind) := q2 0 _ rfl
        have m1 : wr.cell? ⟨b2, o2 + k * 8 + 1, none⟩ = some (.int .i64 y.ino) := q2 1 _ rfl
        have m2 : wr.cell? ⟨b2, o2 + k * 8 + 2, none⟩ = some (.int .i64 y.dest) := q2 2 _ rfl
        have m3 : wr.cell? ⟨b2, o2 + k * 8 + 3, none⟩ = some (.int .i64 y.pos) := q2 3 _ rfl
        have m4 : wr.cell? ⟨b2, o2 + k * 8 + 4, none⟩ = some (.int .i64 y.many) := q2 4 _ rfl
        have m5 : wr.cell? ⟨b2, o2 + k * 8 + 5, none⟩ = some (.string ⟨y.name.toArray⟩) := q2 5 _ rfl
        have m6 : wr.cell? ⟨b2, o2 + k * 8 + 6, none⟩ = some (.string ⟨y.name2.toArray⟩) := q2 6 _ rfl
        have m7 : wr.cell? ⟨b2, o2 + k * 8 + 7, none⟩ = some (.string ⟨y.text.toArray⟩) := q2 7 _ rfl
        clear q1 q2 ok1 ok2
        have heq : ∀ W : World, (binOp .neq 36 (.agg #[.int .i64 x.kind, .int .i64 x.ino, .int .i64 x.dest, .int .i64 x.pos, .int .i64 x.many, .string ⟨x.name.toArray⟩, .string ⟨x.name2.toArray⟩, .string ⟨x.text.toArray⟩]) (.agg #[.int .i64 y.kind, .int .i64 y.ino, .int .i64 y.dest, .int .i64 y.pos, .int .i64 y.many, .string ⟨y.name.toArray⟩, .string ⟨y.name2.toArray⟩, .string ⟨y.text.toArray⟩])).run Try.prog W = .ok (.bool (!decide (x = y))) W := fun W => cal_neq x y W
        by_cases hrow : x = y
        · rw [decide_eq_true hrow, Bool.not_true] at heq
          have HN := Lib.hid (HST.out hrow)
          clear hrow HNO HST
          go_wp2_with fail
          go_quiet (fail)
          go_wp2_with fail
          go_roundw
          case rel => exact ⟨k + 1, by go_num, by omega, HN.out, below_dn HP.out.2 _⟩
          case measure => simp [intOf]; omega
        · rw [decide_eq_false hrow, Bool.not_false] at heq
          have HF := Lib.hid (HNO.out hrow)
          clear hrow HNO HST
          go_wp2_with fail
          go_quiet (fail)
          go_wp2_with fail
          go_ret
          exact ⟨by rw [HF.out]; rfl, below_dn HP.out.2 _⟩
      · have HF : Hid (decide (a = b) = true) := Lib.hid (decide_eq_true (take_all HP.out.1 (by omega) HLE.out))
        go_wp2_with fail
        go_ret
        exact ⟨by rw [HF.out]; rfl, HP.out.2⟩
  · have hl1 : ((a.length : Int) != (b.length : Int)) = true := by rw [bne_iff_ne]; omega
    have HF := Lib.hid (decide_eq_false (fun h => hle (by rw [h])) : decide (a = b) = false)
    clear hle
    go_enter Try.func38, Try.ntmps38
    go_wp2_with fail
    go_ret
    exact ⟨by rw [HF.out]; rfl, Below.refl _ _⟩
set_option maxRecDepth 100000 in
set_option maxHeartbeats 4000000 in
theorem ref18_calls (a b : List Cal) (v u : Value) (w : World) (ha : CalsIn w v a) (hb : CalsIn w u b) (na : a.length ≤ 8796093022207) (nb : b.length ≤ 8796093022207) :
    Calls Try.prog 29 #[v, u] w fun e w' => e = .returned (.bool (decide (a = b))) ∧ Below w.heap.size w w' := by
  obtain ⟨A, c, rfl⟩ := SlOf.shape ha
  obtain ⟨B, d, rfl⟩ := SlOf.shape hb
  have HA := Lib.hid ha
  have HB := Lib.hid hb
  clear ha hb
  by_cases hle : a.length = b.length
  · have hl1 : ((a.length : Int) != (b.length : Int)) = false := by rw [hle]; simp
    have HLE := Lib.hid hle
    clear hle
    go_enter Try.func29, Try.ntmps29
    go_wp2_with fail
    go_loopw [5] (fun si wr => ∃ k : Nat, si = .int .i64 k ∧ k ≤ a.length ∧ a.take k = b.take k ∧ Below w.heap.size w wr) (fun si _ => a.length - (intOf si).toNat)
    case atStart => exact ⟨0, rfl, Nat.zero_le _, by simp, Below.refl _ _⟩
    case round =>
      obtain ⟨k, rfl, hk, hp, hb⟩ := hrel
      have HP := Lib.hid (And.intro hp hb)
      have hbs := hb.size
      clear hp hl1 hb
      by_cases hlt : k < a.length
      · have hlt' : k < b.length := by have := HLE.out; omega
        have hi1 : (k : Int) < (a.length : Int) := by omega
        have hi2 : (k : Int) < (b.length : Int) := by omega
        have HST := Lib.hid (fun h => take_more HP.out.1 hlt hlt' h)
        have HNO := Lib.hid (fun h => (decide_eq_false (getE_ne hlt hlt' h) : decide (a = b) = false))
        obtain ⟨b1, o1, rfl, hb1, q1, ok1⟩ := (HA.out.below HP.out.2).at k hlt
        obtain ⟨b2, o2, rfl, hb2, q2, ok2⟩ := (HB.out.below HP.out.2).at k hlt'
        generalize a[k] = x at *
        generalize b[k] = y at *
        have k0 : wr.cell? ⟨b1, o1 + k * 8, none⟩ = some (.int .i64 x.kind) := q1 0 _ rfl
        have k1 : wr.cell? ⟨b1, o1 + k * 8 + 1, none⟩ = some (.int .i64 x.ino) := q1 1 _ rfl
        have k2 : wr.cell? ⟨b1, o1 + k * 8 + 2, none⟩ = some (.int .i64 x.dest) := q1 2 _ rfl
        have k3 : wr.cell? ⟨b1, o1 + k * 8 + 3, none⟩ = some (.int .i64 x.pos) := q1 3 _ rfl
        have k4 : wr.cell? ⟨b1, o1 + k * 8 + 4, none⟩ = some (.int .i64 x.many) := q1 4 _ rfl
        have k5 : wr.cell? ⟨b1, o1 + k * 8 + 5, none⟩ = some (.string ⟨x.name.toArray⟩) := q1 5 _ rfl
        have k6 : wr.cell? ⟨b1, o1 + k * 8 + 6, none⟩ = some (.string ⟨x.name2.toArray⟩) := q1 6 _ rfl
        have k7 : wr.cell? ⟨b1, o1 + k * 8 + 7, none⟩ = some (.string ⟨x.text.toArray⟩) := q1 7 _ rfl
        have m0 : wr.cell? ⟨b2, o2 + k * 8, none⟩ = some (.int .i64 y.kind) := q2 0 _ rfl
        have m1 : wr.cell? ⟨b2, o2 + k * 8 + 1, none⟩ = some (.int .i64 y.ino) := q2 1 _ rfl
        have m2 : wr.cell? ⟨b2, o2 + k * 8 + 2, none⟩ = some (.int .i64 y.dest) := q2 2 _ rfl
        have m3 : wr.cell? ⟨b2, o2 + k * 8 + 3, none⟩ = some (.int .i64 y.pos) := q2 3 _ rfl
        have m4 : wr.cell? ⟨b2, o2 + k * 8 + 4, none⟩ = some (.int .i64 y.many) := q2 4 _ rfl
        have m5 : wr.cell? ⟨b2, o2 + k * 8 + 5, none⟩ = some (.string ⟨y.name.toArray⟩) := q2 5 _ rfl
        have m6 : wr.cell? ⟨b2, o2 + k * 8 + 6, none⟩ = some (.string ⟨y.name2.toArray⟩) := q2 6 _ rfl
        have m7 : wr.cell? ⟨b2, o2 + k * 8 + 7, none⟩ = some (.string ⟨y.text.toArray⟩) := q2 7 _ rfl
        clear q1 q2 ok1 ok2
        have heq : ∀ W : World, (binOp .neq 36 (.agg #[.int .i64 x.kind, .int .i64 x.ino, .int .i64 x.dest, .int .i64 x.pos, .int .i64 x.many, .string ⟨x.name.toArray⟩, .string ⟨x.name2.toArray⟩, .string ⟨x.text.toArray⟩]) (.agg #[.int .i64 y.kind, .int .i64 y.ino, .int .i64 y.dest, .int .i64 y.pos, .int .i64 y.many, .string ⟨y.name.toArray⟩, .string ⟨y.name2.toArray⟩, .string ⟨y.text.toArray⟩])).run Try.prog W = .ok (.bool (!decide (x = y))) W := fun W => cal_neq x y W
        by_cases hrow : x = y
        · rw [decide_eq_true hrow, Bool.not_true] at heq
          have HN := Lib.hid (HST.out hrow)
          clear hrow HNO HST
          go_wp2_with fail
          go_quiet (fail)
          go_wp2_with fail
          go_roundw
          case rel => exact ⟨k + 1, by go_num, by omega, HN.out, below_dn HP.out.2 _⟩
          case measure => simp [intOf]; omega
        · rw [decide_eq_false hrow, Bool.not_false] at heq
          have HF := Lib.hid (HNO.out hrow)
          clear hrow HNO HST
          go_wp2_with fail
          go_quiet (fail)
          go_wp2_with fail
          go_ret
          exact ⟨by rw [HF.out]; rfl, below_dn HP.out.2 _⟩
      · have HF : Hid (decide (a = b) = true) := Lib.hid (decide_eq_true (take_all HP.out.1 (by omega) HLE.out))
        go_wp2_with fail
        go_ret
        exact ⟨by rw [HF.out]; rfl, HP.out.2⟩
  · have hl1 : ((a.length : Int) != (b.length : Int)) = true := by rw [bne_iff_ne]; omega
    have HF := Lib.hid (decide_eq_false (fun h => hle (by rw [h])) : decide (a = b) = false)
    clear hle
    go_enter Try.func29, Try.ntmps29
    go_wp2_with fail
    go_ret
    exact ⟨by rw [HF.out]; rfl, Below.refl _ _⟩
theorem client_calls (a b : List Cal) (v u : Value) (w : World) (ha : CalsIn w v a) (hb : CalsIn w u b) (na : a.length ≤ 8796093022207) (nb : b.length ≤ 8796093022207) :
    Calls Try.prog 37 #[v, u] w fun e w' => e = .returned (.bool (decide (a = b))) ∧ Below w.heap.size w w' := by
  obtain ⟨A, c, rfl⟩ := SlOf.shape ha
  obtain ⟨B, d, rfl⟩ := SlOf.shape hb
  have HC := Lib.hid (cals_Equal a b _ _ w ha hb na nb)
  clear ha hb
  go_enter Try.func37, Try.ntmps37
  go_wp2_with fail
  refine HC.out.mono ?_
  rintro e w2 ⟨rfl, hb2⟩
  have HB2 := Lib.hid hb2
  clear hb2
  go_wp2_with fail
  go_ret
  exact ⟨rfl, HB2.out⟩
set_option maxRecDepth 100000 in
set_option maxHeartbeats 4000000 in
theorem jobs_EqualFunc (a b : List (List Cal)) (v u : Value) (w : World) (ha : JobsIn w v a) (hb : JobsIn w u b) (na : a.length ≤ 8796093022207) (nb : b.length ≤ 8796093022207) :
    Calls Try.prog 40 #[v, u, .func (.func 37) #[] #[]] w fun e w' => e = .returned (.bool (decide (a = b))) ∧ Below w.heap.size w w' := by
  obtain ⟨A, c, rfl⟩ := SlOf.shape ha
  obtain ⟨B, d, rfl⟩ := SlOf.shape hb
  have HA := Lib.hid ha
  have HB := Lib.hid hb
  clear ha hb
  by_cases hle : a.length = b.length
  · have hl1 : ((a.length : Int) != (b.length : Int)) = false := by rw [hle]; simp
    have HLE := Lib.hid hle
    clear hle
    go_enter Try.func40, Try.ntmps40
    go_wp2_with fail
    go_loopw [17] (fun si wr => ∃ k : Nat, si = .int .i64 k ∧ k ≤ a.length ∧ a.take k = b.take k ∧ Below w.heap.size w wr) (fun si _ => a.length - (intOf si).toNat)
    case atStart => exact ⟨0, rfl, Nat.zero_le _, by simp, Below.refl _ _⟩
    case round =>
      obtain ⟨k, rfl, hk, hp, hb⟩ := hrel
      have HP := Lib.hid (And.intro hp hb)
      have hbs := hb.size
      clear hp hl1 hb
      by_cases hlt : k < a.length
      · have hlt' : k < b.length := by have := HLE.out; omega
        have hi1 : (k : Int) < (a.length : Int) := by omega
        have hi2 : (k : Int) < (b.length : Int) := by omega
        have HST := Lib.hid (fun h => take_more HP.out.1 hlt hlt' h)
        have HNO := Lib.hid (fun h => (decide_eq_false (getE_ne hlt hlt' h) : decide (a = b) = false))
        obtain ⟨b1, o1, A1, c1, rfl, hb1, k0, hs1, ok1⟩ := (HA.out.below HP.out.2).at k hlt
        obtain ⟨b2, o2, A2, c2, rfl, hb2, m0, hs2, ok2⟩ := (HB.out.below HP.out.2).at k hlt'
        generalize a[k] = x at *
        generalize b[k] = y at *
        have HC := Lib.hid (client_calls x y _ _ wr hs1 hs2 ok1 ok2)
        clear hs1 hs2
        go_wp2_with fail
        refine HC.out.mono ?_
        rintro e w4 ⟨rfl, hb4⟩
        have HB4 := Lib.hid (below_trans HP.out.2 hb4 hbs)
        clear hb4
        by_cases hrow : x = y
        · rw [decide_eq_true hrow]
          have HN := Lib.hid (HST.out hrow)
          clear hrow HNO HST
          go_wp2_with fail
          go_roundw
          case rel => exact ⟨k + 1, by go_num, by omega, HN.out, HB4.out⟩
          case measure => simp [intOf]; omega
        · rw [decide_eq_false hrow]
          have HF := Lib.hid (HNO.out hrow)
          clear hrow HNO HST
          go_wp2_with fail
          go_ret
          exact ⟨by rw [HF.out]; rfl, HB4.out⟩
      · have HF : Hid (decide (a = b) = true) := Lib.hid (decide_eq_true (take_all HP.out.1 (by omega) HLE.out))
        go_wp2_with fail
        go_ret
        exact ⟨by rw [HF.out]; rfl, HP.out.2⟩
  · have hl1 : ((a.length : Int) != (b.length : Int)) = true := by rw [bne_iff_ne]; omega
    have HF := Lib.hid (decide_eq_false (fun h => hle (by rw [h])) : decide (a = b) = false)
    clear hle
    go_enter Try.func40, Try.ntmps40
    go_wp2_with fail
    go_ret
    exact ⟨by rw [HF.out]; rfl, Below.refl _ _⟩
end Go.Proofs.Ytpdedjbkfcaebaa
