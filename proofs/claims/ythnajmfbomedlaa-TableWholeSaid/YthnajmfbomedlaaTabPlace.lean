/- table.rowOf: where a client's row stands; old memory is as it was. -/
import Derived.Test.YthnajmfbomedlaaTabRef
set_option linter.unusedVariables false
namespace Go.Proofs.Ythnajmfbomedlaa
open Go.RowKit Copyhold

/-- where a number stands in a row that rises, or would stand, and whether it does -/
def placeN : List Int → Int → Nat × Bool
  | [], _ => (0, false)
  | m :: r, n => if n ≤ m then (0, m == n) else ((placeN r n).1 + 1, (placeN r n).2)

theorem placeN_skip (ns : List Int) (n : Int) (k : Nat) (hk : k ≤ ns.length) (h : ∀ m ∈ ns.take k, m < n) : placeN ns n = (k + (placeN (ns.drop k) n).1, (placeN (ns.drop k) n).2) := by
  induction k generalizing ns with
  | zero => simp
  | succ k ih =>
    cases ns with
    | nil => simp at hk
    | cons m r =>
      have h0 := h m (by simp)
      have := ih r (by simpa using hk) (fun x hx => h x (by simp [hx]))
      rw [placeN, if_neg (by omega), this, List.drop_succ_cons]
      simp only [Prod.mk.injEq, and_true]
      omega

theorem rowOf_turn (a b c : Int) (A : Option Addr) (n d : Nat) (w : World) :
    Calls Try.prog 52 #[.agg #[.int .i64 a, .int .i64 b, .int .i64 c, .slice A n d]] w fun e w' => e = .returned (.int .i64 a) ∧ w' = w.alloc (.cells #[.int .i64 a, .int .i64 b, .int .i64 c, .slice A n d] 63) := by
  go_enter Try.func52, Try.ntmps52
  go_wp2_with fail
  go_ret
  exact ⟨rfl, rfl⟩

set_option maxHeartbeats 2000000 in
theorem place_rows (rs : List TRow) (A : Option Addr) (c : Nat) (n : Int) (w : World) (hr : RowsIn w (.slice A rs.length c) rs) (hn : rs.length ≤ 8796093022207) (h1 : -9223372036854775808 ≤ n) (h2 : n ≤ 9223372036854775807) :
    Calls Try.prog 51 #[.slice A rs.length c, .func (.func 52) #[] #[], .int .i64 n] w fun e w' => e = .returned (.tuple #[.int .i64 (placeN (rs.map (·.client)) n).1, .bool (placeN (rs.map (·.client)) n).2]) ∧ Below w.heap.size w w' := by
  have HR := Lib.hid hr
  obtain ⟨D, hD⟩ : ∃ D, D = placeN (rs.map (·.client)) n := ⟨_, rfl⟩
  rw [← hD]
  have HD := Lib.hid hD
  clear hr hD
  go_enter Try.func51, Try.ntmps51
  go_wp2_with fail
  go_loopw [13] (fun si wr => ∃ k : Nat, si = .int .i64 k ∧ k ≤ rs.length ∧ (∀ m ∈ (rs.map (·.client)).take k, m < n) ∧ Below w.heap.size w wr) (fun si _ => rs.length - (intOf si).toNat)
  case atStart => exact ⟨0, rfl, Nat.zero_le _, by simp, Below.refl _ _⟩
  case round =>
    obtain ⟨k, rfl, hk, hpre, hb⟩ := hrel
    have HP := Lib.hid hpre
    clear hpre
    by_cases hlt : k < rs.length
    · obtain ⟨b, off, A', c', rfl, hbk, k0, k1, k2, k3, hsl, hll, ho, _, _⟩ := (HR.out.below hb).at k hlt
      obtain ⟨ho1, ho2⟩ := ho
      have hskip := placeN_skip (rs.map (·.client)) n k (by simpa using hk) HP.out
      have hdrop : (rs.map (·.client)).drop k = rs[k].client :: (rs.map (·.client)).drop (k + 1) := by
        rw [List.drop_eq_getElem_cons (by simpa using hlt)]
        simp
      rw [hdrop] at hskip
      have HSK := Lib.hid hskip
      have hnext : rs[k].client < n → ∀ m ∈ (rs.map (·.client)).take (k + 1), m < n := fun hlt' m hm => by
        rw [List.take_succ_eq_append_getElem (by simpa using hlt)] at hm
        rcases List.mem_append.1 hm with hm | hm
        · exact HP.out m hm
        · simp at hm; rw [hm]; exact hlt'
      have HNX := Lib.hid hnext
      clear hskip hdrop hnext hsl
      generalize rs[k].client = x at *
      generalize rs[k].epoch = y at *
      generalize rs[k].done = z at *
      generalize rs[k].l.length = q at *
      have hbw := hb.size
      by_cases hx : n ≤ x
      · have hfin : D = (k, x == n) := by rw [HD.out, HSK.out, placeN, if_pos hx]; rfl
        have HF := Lib.hid hfin
        clear hfin
        go_wp2_with fail
        refine (rowOf_turn x y z A' q c' _).mono ?_
        rintro e w1 ⟨rfl, rfl⟩
        go_wp2_with fail
        go_ret2
        exact ⟨by rw [HF.out]; rfl, (hb.alloc hbw _).alloc (by simp; omega) _⟩
      · have HN2 := Lib.hid (HNX.out (by omega))
        go_wp2_with fail
        refine (rowOf_turn x y z A' q c' _).mono ?_
        rintro e w1 ⟨rfl, rfl⟩
        go_wp2_with fail
        go_roundw
        case rel => exact ⟨k + 1, by go_num, by omega, HN2.out, (hb.alloc hbw _).alloc (by simp; omega) _⟩
        case measure => simp [intOf]; omega
    · have hfin : D = (rs.length, false) := by
        rw [HD.out, placeN_skip (rs.map (·.client)) n k (by simpa using hk) HP.out, List.drop_eq_nil_of_le (by simp; omega)]
        simp [placeN]
        omega
      have HF := Lib.hid hfin
      clear hfin
      go_wp2_with fail
      go_ret2
      exact ⟨by rw [HF.out]; rfl, hb⟩

theorem table_rowOf (rs : List TRow) (A : Option Addr) (c : Nat) (n : Int) (w : World) (hr : RowsIn w (.slice A rs.length c) rs) (hn : rs.length ≤ 8796093022207) (h1 : -9223372036854775808 ≤ n) (h2 : n ≤ 9223372036854775807) :
    Calls Try.prog 31 #[.slice A rs.length c, .int .i64 n] w fun e w' => e = .returned (.tuple #[.int .i64 (placeN (rs.map (·.client)) n).1, .bool (placeN (rs.map (·.client)) n).2]) ∧ Below w.heap.size w w' := by
  have HC := Lib.hid (place_rows rs A c n w hr hn h1 h2)
  clear hr
  go_enter Try.func31, Try.ntmps31
  go_wp2_with fail
  refine HC.out.mono ?_
  rintro e w1 ⟨rfl, hb1⟩
  have HB := Lib.hid hb1
  clear hb1
  go_wp2_with fail
  go_ret2
  exact ⟨rfl, HB.out⟩
end Go.Proofs.Ythnajmfbomedlaa
