/- data.Unlike: for every two texts of at most 2^31 bytes it answers where they differ, in new memory; old memory is as it was. -/
import Derived.Test.YtgmpgmhbfkdalaaDataWrite
import Derived.Laws.ComplexArith
import Derived.Deep.QuietTactic
import Derived.BigQuiet
namespace Go.Proofs.Ytgmpgmhbfkdalaa
open Go.RowKit Copyhold

/-- a span as a cell -/
def spanV (x : Nat × Nat) : Value := .complex .f64 (fl x.1) (fl x.2)

/-- a place more at which they differ, the last span first -/
def bumpR : List (Nat × Nat) → Nat → List (Nat × Nat)
  | (p, m) :: r, i => if p + m = i then (p, m + 1) :: r else (i, 1) :: (p, m) :: r
  | [], i => [(i, 1)]

/-- where two texts differ below a place, the last span first -/
def unlikeR (a b : List UInt8) : Nat → List (Nat × Nat)
  | 0 => []
  | n + 1 => if a[n]? = b[n]? then unlikeR a b n else bumpR (unlikeR a b n) n

/-- where the last one ends -/
def endR : List (Nat × Nat) → Nat
  | (p, m) :: _ => p + m
  | [] => 0

def unlikeD (a b : List UInt8) : List (Nat × Nat) := (unlikeR a b (max a.length b.length)).reverse

theorem unlikeR_end (a b : List UInt8) (n : Nat) : endR (unlikeR a b n) ≤ n ∧ (unlikeR a b n).length ≤ n ∧ (unlikeR a b n ≠ [] → 0 < endR (unlikeR a b n)) := by
  induction n with
  | zero => simp [unlikeR, endR]
  | succ n ih =>
    unfold unlikeR
    split
    · exact ⟨by omega, by omega, ih.2.2⟩
    · cases h : unlikeR a b n with
      | nil => simp [bumpR, endR]
      | cons x r =>
        rw [h] at ih
        simp [endR] at ih
        by_cases hx : x.1 + x.2 = n
        · rw [bumpR, if_pos hx]; simp [endR]; omega
        · rw [bumpR, if_neg hx]; simp [endR]; omega

/-- spans of the call's own -/
def RetSpans (w : World) (xs : List (Nat × Nat)) (e : Ending) (w' : World) : Prop :=
  ∃ v, e = .returned v ∧ w'.ownsRow w.heap.size 57 1 v xs.length (xs.map spanV) ∧ Below w.heap.size w w'

theorem info_complex : (Try.prog.info? 57).map (fun i => (i.zero, i.size, i.bytes)) = some (some (.complex .f64 0 0), 1, 16) := by kernel_rfl

theorem fl_one : fl 1 = 4607182418800017408 := by decide +kernel

theorem same_at {a b : List UInt8} {k : Nat} (ha : k < (⟨a.toArray⟩ : ByteArray).size) (hb : k < (⟨b.toArray⟩ : ByteArray).size) (h : a[k]? = b[k]?) :
    ((((⟨a.toArray⟩ : ByteArray)[k]'ha).toNat : Int) == (((⟨b.toArray⟩ : ByteArray)[k]'hb).toNat : Int)) = true := by
  have ha' : k < a.length := ha
  have hb' : k < b.length := hb
  rw [List.getElem?_eq_getElem ha', List.getElem?_eq_getElem hb'] at h
  have : (⟨a.toArray⟩ : ByteArray)[k]'ha = (⟨b.toArray⟩ : ByteArray)[k]'hb := Option.some.inj h
  simp [this]

theorem diff_at {a b : List UInt8} {k : Nat} (ha : k < (⟨a.toArray⟩ : ByteArray).size) (hb : k < (⟨b.toArray⟩ : ByteArray).size) (h : ¬ a[k]? = b[k]?) :
    ((((⟨a.toArray⟩ : ByteArray)[k]'ha).toNat : Int) == (((⟨b.toArray⟩ : ByteArray)[k]'hb).toNat : Int)) = false := by
  have ha' : k < a.length := ha
  have hb' : k < b.length := hb
  rw [List.getElem?_eq_getElem ha', List.getElem?_eq_getElem hb'] at h
  rw [beq_eq_false_iff_ne]
  intro e
  exact h (congrArg some (show a[k] = b[k] from UInt8.toNat.inj (Int.ofNat.inj e)))

theorem sum_one (p m : Nat) (hp : p < 4503599627370496) (hm : m < 4503599627370496) : cSumBits .add .f64 (fl p) (fl m) 0 4607182418800017408 = some (fl p, fl (m + 1)) := by
  have h1 : floatBits .add .f64 (fl p) 0 = some (fl p) := fl_add p 0 (by omega)
  have h2 : floatBits .add .f64 (fl m) 4607182418800017408 = some (fl (m + 1)) := by rw [← fl_one]; exact fl_add m 1 (by omega)
  unfold cSumBits
  rw [h1, h2]
  rfl

theorem spanV_one (k : Nat) : spanV (k, 1) = .complex .f64 (fl k) 4607182418800017408 := by
  unfold spanV
  rw [fl_one]

theorem below_dn {B : Nat} {a w : World} (h : Below B a w) (n : Nat) : Below B a (w.drewN n) := h.trans ⟨rfl, rfl, rfl, Nat.le_refl _, fun _ _ => rfl⟩

theorem run_store_complex {P : Program} {w : World} {a : Addr} {m : Mode} (k : FloatKind) (x y : Nat) : (store a (.complex k x y) m).run P w = stored P w a (.complex k x y) m := run_store P w a _ m rfl
attribute [local go_sem] run_store_complex

def UnRel (w : World) (a b : List UInt8) (k : Nat) (v : Value) (wr : World) : Prop :=
  k ≤ max a.length b.length ∧ wr.ownsRow w.heap.size 57 1 v (unlikeR a b k).length ((unlikeR a b k).reverse.map spanV) ∧ Below w.heap.size w wr

set_option maxHeartbeats 4000000 in
theorem data_Unlike (a b : List UInt8) (w : World) (hl : a.length ≤ 2147483648) (hn : b.length ≤ 2147483648) :
    Calls Try.prog 22 #[.string ⟨a.toArray⟩, .string ⟨b.toArray⟩] w (RetSpans w (unlikeD a b)) := by
  obtain ⟨i0, hi, hz0, hz1, hz2⟩ := info_parts info_complex
  rcases (show b.length < a.length ∨ ¬ b.length < a.length ∧ a.length < b.length ∨ ¬ b.length < a.length ∧ ¬ a.length < b.length from by omega) with q | ⟨q, q'⟩ | ⟨q, q'⟩
  all_goals
    go_enter Try.func22, Try.ntmps22
    go_wp2_with fail
    go_loopw [7, 8, 21] (fun sl st si wr => ∃ (k : Nat) (z : Int), si = .int .i64 k ∧ st = .int .i64 z ∧ z = endR (unlikeR a b k) - 1 ∧ UnRel w a b k sl wr) (fun _ _ si _ => max a.length b.length - (intOf si).toNat)
    case atStart => exact ⟨0, -1, rfl, rfl, rfl, Nat.zero_le _, World.ownsRow_nil _ _ _ _, Below.refl _ _⟩
    case round =>
      obtain ⟨k, z, rfl, rfl, hz, hk, hown, hb⟩ := hrel
      have hsz := hb.size
      have hend := unlikeR_end a b k
      have HZ := Lib.hid hz
      by_cases hlt : k < max a.length b.length
      · by_cases hs : a[k]? = b[k]?
        · have hu : unlikeR a b (k + 1) = unlikeR a b k := by rw [unlikeR, if_pos hs]
          have HU := Lib.hid hu
          have hka : k < a.length := by
            rcases Nat.lt_or_ge k a.length with h | h
            · exact h
            · rw [List.getElem?_eq_none h] at hs
              have := List.getElem?_eq_none_iff.1 hs.symm
              omega
          have hkb : k < b.length := by
            rcases Nat.lt_or_ge k b.length with h | h
            · exact h
            · rw [List.getElem?_eq_none h] at hs
              have := List.getElem?_eq_none_iff.1 hs
              omega
          have HS := Lib.hid hs
          clear hs hu hz hend
          go_wp2_with fail
          go_quiet (fail)
          rw [same_at hka hkb HS.out]
          go_wp2_with fail
          go_roundw
          case rel => exact ⟨k + 1, z, by go_num, rfl, by rw [HU.out]; exact HZ.out, by omega, by rw [HU.out]; exact hown, below_dn hb _⟩
          case measure => simp [intOf]; omega
        · have hu : unlikeR a b (k + 1) = bumpR (unlikeR a b k) k := by rw [unlikeR, if_neg hs]
          have HU := Lib.hid hu
          have HS := Lib.hid hs
          clear hs hu hz hend
          by_cases hin : k < a.length ∧ k < b.length
          · obtain ⟨hka, hkb⟩ := hin
            · go_wp2_with fail
              go_quiet (fail)
              rw [diff_at hka hkb HS.out]
              obtain ⟨W, hW⟩ : ∃ W, W = wr.drewN nq := ⟨_, rfl⟩
              have hownW : W.ownsRow w.heap.size 57 1 u7 (unlikeR a b k).length ((unlikeR a b k).reverse.map spanV) := by rw [hW]; exact hown
              have hbW : Below w.heap.size w W := by rw [hW]; exact below_dn hb _
              have hszW := hbW.size
              rw [← hW]
              clear hW
              cases hacc : unlikeR a b k with
              | nil =>
                have hu : unlikeR a b (k + 1) = [(k, 1)] := by rw [HU.out, hacc]; rfl
                have hz' : z = -1 := by rw [HZ.out, hacc]; rfl
                rw [hacc] at hownW
                have hownW : W.ownsRow w.heap.size 57 1 u7 0 [] := hownW
                have HU' := Lib.hid hu
                clear hu hacc
                subst hz'
                have hc := fl_conv k
                go_wp2_with (at_builtin; refine wpList_append_own _ rfl _ _ 40 rfl w.heap.size 57 i0 (.complex .f64 0 0) 1 16 Try.underlying40 hi hz0 hz1 hz2 rfl (by decide) _ _ _ rfl (hownW.alloc _) ⟨W.heap.size, 0, none⟩ 1 1 [.complex .f64 (fl k) 4607182418800017408] rfl rfl (cell_one_new _ _ _) (fun x hx => by simp at hx; subst hx; rfl) (by unfold maxLen; omega) (by omega) (by simp; omega) ?_; intro v' w3 hown' hgrow3 hnil3; clear hnil3)
                go_roundw
                case rel => exact ⟨k + 1, k, by go_num, rfl, by rw [HU'.out]; simp [endR], by omega, by rw [HU'.out]; show World.ownsRow _ _ _ _ _ _ [spanV (k, 1)]; rw [spanV_one]; exact hown', (hbW.alloc (by omega) _).grown hgrow3 (by simp; omega) (fun q hq => (hownW.lt q hq).1)⟩
                case measure => simp [intOf]; omega
              | cons x r =>
                obtain ⟨p, m⟩ := x
                rw [hacc] at hownW
                have hend := unlikeR_end a b k
                rw [hacc] at hend
                obtain ⟨he1, he2, he3⟩ := hend
                have he3 := he3 (by simp)
                have hz' : z = (p : Int) + m - 1 := by rw [HZ.out, hacc]; simp [endR]
                simp only [endR, List.length_cons] at he1 he2 he3
                by_cases hpm : p + m = k
                · have hu : unlikeR a b (k + 1) = (p, m + 1) :: r := by rw [HU.out, hacc]; exact if_pos hpm
                  have HU' := Lib.hid hu
                  clear hu hacc
                  have hzz : 0 ≤ z := by omega
                  have hzk : (z == (k : Int) - 1) = true := by rw [beq_iff_eq]; omega
                  have hshape : ∃ g cap, u7 = .slice (some ⟨g, 0, none⟩) (r.length + 1) cap ∧ w.heap.size ≤ g := by
                    rcases hownW.2 with ⟨_, h0⟩ | ⟨g, cap, cur, rfl, hg, _⟩
                    · simp at h0
                    · exact ⟨g, cap, rfl, hg⟩
                  obtain ⟨g, cap, rfl, hg⟩ := hshape
                  have hcell : W.cell? ⟨g, r.length, none⟩ = some (.complex .f64 (fl p) (fl m)) := by
                    rw [hownW.cellAt r.length (by simp)]
                    simp [spanV]
                  have hfr := hownW.frozenAt r.length
                  have hst := (hownW.stored r.length (.complex .f64 (fl p) (fl (m + 1)))).1
                  have hst2 : W.ownsRow w.heap.size 57 1 (.slice (some ⟨g, 0, none⟩) (r.length + 1) cap) (r.length + 1) (((p, m) :: r).reverse.map spanV) := hownW
                  have hset : (((p, m) :: r).reverse.map spanV).set r.length (.complex .f64 (fl p) (fl (m + 1))) = ((p, m + 1) :: r).reverse.map spanV := by
                    rw [List.reverse_cons, List.map_append, List.reverse_cons, List.map_append, List.set_append_right _ _ (by simp)]
                    simp [spanV]
                  rw [hset] at hst
                  have hsum := fun W' => run_complex_sum (P := Try.prog) W' .add (.inl rfl) 57 .f64 _ _ _ _ _ _ (sum_one p m (by omega) (by omega))
                  have HST := Lib.hid hst
                  have hrl : r.length ≤ 2147483648 := by omega
                  clear hz' hst hst2 hset hownW hown he2
                  go_wp2_with fail
                  go_roundw
                  case rel => exact ⟨k + 1, k, by go_num, rfl, by rw [HU'.out]; simp [endR]; omega, by omega, by rw [HU'.out]; exact HST.out, hbW.setCell hg _⟩
                  case measure => simp [intOf]; omega
                · have hu : unlikeR a b (k + 1) = (k, 1) :: (p, m) :: r := by rw [HU.out, hacc]; exact if_neg hpm
                  have HU' := Lib.hid hu
                  clear hu hacc
                  have hc := fl_conv k
                  have hzz : 0 ≤ z := by omega
                  have hzk : (z == (k : Int) - 1) = false := by rw [beq_eq_false_iff_ne]; omega
                  clear hz'
                  go_wp2_with (at_builtin; refine wpList_append_own _ rfl _ _ 40 rfl w.heap.size 57 i0 (.complex .f64 0 0) 1 16 Try.underlying40 hi hz0 hz1 hz2 rfl (by decide) _ _ _ rfl (hownW.alloc _) ⟨W.heap.size, 0, none⟩ 1 1 [.complex .f64 (fl k) 4607182418800017408] rfl rfl (cell_one_new _ _ _) (fun x hx => by simp at hx; subst hx; rfl) (by unfold maxLen; simp; omega) (by simp; omega) (by simp; omega) ?_; intro v' w3 hown' hgrow3 hnil3; clear hnil3)
                  go_roundw
                  case rel => exact ⟨k + 1, k, by go_num, rfl, by rw [HU'.out]; simp [endR], by omega, by rw [HU'.out, List.reverse_cons, List.map_append]; show World.ownsRow _ _ _ _ _ _ (_ ++ [spanV (k, 1)]); rw [spanV_one]; exact hown', (hbW.alloc (by omega) _).grown hgrow3 (by simp; omega) (fun q hq => (hownW.lt q hq).1)⟩
                  case measure => simp [intOf]; omega
          · first
            | have hka : ¬ k < b.length := by omega
            | have hka : ¬ k < a.length := by omega
            all_goals
              try (exfalso; omega)
            all_goals
              go_wp2_with fail
              go_quiet (fail)
              obtain ⟨W, hW⟩ : ∃ W, W = wr.drewN nq := ⟨_, rfl⟩
              have hownW : W.ownsRow w.heap.size 57 1 u7 (unlikeR a b k).length ((unlikeR a b k).reverse.map spanV) := by rw [hW]; exact hown
              have hbW : Below w.heap.size w W := by rw [hW]; exact below_dn hb _
              have hszW := hbW.size
              rw [← hW]
              clear hW
              cases hacc : unlikeR a b k with
              | nil =>
                have hu : unlikeR a b (k + 1) = [(k, 1)] := by rw [HU.out, hacc]; rfl
                have hz' : z = -1 := by rw [HZ.out, hacc]; rfl
                rw [hacc] at hownW
                have hownW : W.ownsRow w.heap.size 57 1 u7 0 [] := hownW
                have HU' := Lib.hid hu
                clear hu hacc
                subst hz'
                have hc := fl_conv k
                go_wp2_with (at_builtin; refine wpList_append_own _ rfl _ _ 40 rfl w.heap.size 57 i0 (.complex .f64 0 0) 1 16 Try.underlying40 hi hz0 hz1 hz2 rfl (by decide) _ _ _ rfl (hownW.alloc _) ⟨W.heap.size, 0, none⟩ 1 1 [.complex .f64 (fl k) 4607182418800017408] rfl rfl (cell_one_new _ _ _) (fun x hx => by simp at hx; subst hx; rfl) (by unfold maxLen; omega) (by omega) (by simp; omega) ?_; intro v' w3 hown' hgrow3 hnil3; clear hnil3)
                go_roundw
                case rel => exact ⟨k + 1, k, by go_num, rfl, by rw [HU'.out]; simp [endR], by omega, by rw [HU'.out]; show World.ownsRow _ _ _ _ _ _ [spanV (k, 1)]; rw [spanV_one]; exact hown', (hbW.alloc (by omega) _).grown hgrow3 (by simp; omega) (fun q hq => (hownW.lt q hq).1)⟩
                case measure => simp [intOf]; omega
              | cons x r =>
                obtain ⟨p, m⟩ := x
                rw [hacc] at hownW
                have hend := unlikeR_end a b k
                rw [hacc] at hend
                obtain ⟨he1, he2, he3⟩ := hend
                have he3 := he3 (by simp)
                have hz' : z = (p : Int) + m - 1 := by rw [HZ.out, hacc]; simp [endR]
                simp only [endR, List.length_cons] at he1 he2 he3
                by_cases hpm : p + m = k
                · have hu : unlikeR a b (k + 1) = (p, m + 1) :: r := by rw [HU.out, hacc]; exact if_pos hpm
                  have HU' := Lib.hid hu
                  clear hu hacc
                  have hzz : 0 ≤ z := by omega
                  have hzk : (z == (k : Int) - 1) = true := by rw [beq_iff_eq]; omega
                  have hshape : ∃ g cap, u7 = .slice (some ⟨g, 0, none⟩) (r.length + 1) cap ∧ w.heap.size ≤ g := by
                    rcases hownW.2 with ⟨_, h0⟩ | ⟨g, cap, cur, rfl, hg, _⟩
                    · simp at h0
                    · exact ⟨g, cap, rfl, hg⟩
                  obtain ⟨g, cap, rfl, hg⟩ := hshape
                  have hcell : W.cell? ⟨g, r.length, none⟩ = some (.complex .f64 (fl p) (fl m)) := by
                    rw [hownW.cellAt r.length (by simp)]
                    simp [spanV]
                  have hfr := hownW.frozenAt r.length
                  have hst := (hownW.stored r.length (.complex .f64 (fl p) (fl (m + 1)))).1
                  have hst2 : W.ownsRow w.heap.size 57 1 (.slice (some ⟨g, 0, none⟩) (r.length + 1) cap) (r.length + 1) (((p, m) :: r).reverse.map spanV) := hownW
                  have hset : (((p, m) :: r).reverse.map spanV).set r.length (.complex .f64 (fl p) (fl (m + 1))) = ((p, m + 1) :: r).reverse.map spanV := by
                    rw [List.reverse_cons, List.map_append, List.reverse_cons, List.map_append, List.set_append_right _ _ (by simp)]
                    simp [spanV]
                  rw [hset] at hst
                  have hsum := fun W' => run_complex_sum (P := Try.prog) W' .add (.inl rfl) 57 .f64 _ _ _ _ _ _ (sum_one p m (by omega) (by omega))
                  have HST := Lib.hid hst
                  have hrl : r.length ≤ 2147483648 := by omega
                  clear hz' hst hst2 hset hownW hown he2
                  go_wp2_with fail
                  go_roundw
                  case rel => exact ⟨k + 1, k, by go_num, rfl, by rw [HU'.out]; simp [endR]; omega, by omega, by rw [HU'.out]; exact HST.out, hbW.setCell hg _⟩
                  case measure => simp [intOf]; omega
                · have hu : unlikeR a b (k + 1) = (k, 1) :: (p, m) :: r := by rw [HU.out, hacc]; exact if_neg hpm
                  have HU' := Lib.hid hu
                  clear hu hacc
                  have hc := fl_conv k
                  have hzz : 0 ≤ z := by omega
                  have hzk : (z == (k : Int) - 1) = false := by rw [beq_eq_false_iff_ne]; omega
                  clear hz'
                  go_wp2_with (at_builtin; refine wpList_append_own _ rfl _ _ 40 rfl w.heap.size 57 i0 (.complex .f64 0 0) 1 16 Try.underlying40 hi hz0 hz1 hz2 rfl (by decide) _ _ _ rfl (hownW.alloc _) ⟨W.heap.size, 0, none⟩ 1 1 [.complex .f64 (fl k) 4607182418800017408] rfl rfl (cell_one_new _ _ _) (fun x hx => by simp at hx; subst hx; rfl) (by unfold maxLen; simp; omega) (by simp; omega) (by simp; omega) ?_; intro v' w3 hown' hgrow3 hnil3; clear hnil3)
                  go_roundw
                  case rel => exact ⟨k + 1, k, by go_num, rfl, by rw [HU'.out]; simp [endR], by omega, by rw [HU'.out, List.reverse_cons, List.map_append]; show World.ownsRow _ _ _ _ _ _ (_ ++ [spanV (k, 1)]); rw [spanV_one]; exact hown', (hbW.alloc (by omega) _).grown hgrow3 (by simp; omega) (fun q hq => (hownW.lt q hq).1)⟩
                  case measure => simp [intOf]; omega
      · clear hz
        go_wp2_with fail
        go_ret
        refine ⟨_, rfl, ?_, hb⟩
        unfold unlikeD
        rw [show max a.length b.length = k from by omega, List.length_reverse]
        exact hown
end Go.Proofs.Ytgmpgmhbfkdalaa
