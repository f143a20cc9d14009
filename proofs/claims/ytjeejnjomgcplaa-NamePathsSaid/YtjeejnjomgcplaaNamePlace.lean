/- sort.Search at a row of entries, name.place, name.Find: they answer as the document says; old memory is as it was. -/
import Derived.Test.YtjeejnjomgcplaaNameCheck
import Derived.Deep.QuietTactic
import Derived.BigQuiet
set_option linter.unusedVariables false
namespace Go.Proofs.Ytjeejnjomgcplaa
open Go.RowKit Copyhold Copyhold.Name

/-- is an entry's name at or behind a name? -/
def geAt (l : List Ent) (s : List UInt8) (i : Nat) : Bool := !decide ((l.getD i ([], 0)).1 < s)

theorem less_eq : ∀ (x y : List UInt8), Op.bytesLess x y = decide (x < y)
  | [], [] => by simp [Op.bytesLess]
  | a :: x, [] => by simp [Op.bytesLess]
  | [], b :: y => by simp [Op.bytesLess]
  | a :: x, b :: y => by
    rw [Op.bytesLess, less_eq x y, Bool.eq_iff_iff]
    simp only [Bool.or_eq_true, Bool.and_eq_true, decide_eq_true_eq, beq_iff_eq, List.cons_lt_cons_iff]
theorem gete (l : List Ent) (i : Nat) (h : i < l.length) : l.getD i ([], 0) = l[i] := by simp [List.getD, h]

theorem geAt_lt {l : List Ent} {s : List UInt8} (h : Srt l) (i : Nat) (hi : i < l.length) : geAt l s i = decide (pos l s ≤ i) := by
  induction l generalizing i with
  | nil => simp at hi
  | cons a l ih =>
    by_cases ha : a.1 < s
    · rw [pos_lt ha]
      cases i with
      | zero => simp [geAt, ha]
      | succ i =>
        have := ih h.tail i (by simpa using hi)
        unfold geAt at this ⊢
        rw [List.getD_cons_succ, this]
        simp
    · rw [pos_ge h ha]
      cases i with
      | zero => simp [geAt, ha]
      | succ i =>
        have hx : ¬ ((a :: l).getD (i + 1) ([], 0)).1 < s := by
          rw [List.getD_cons_succ, gete l i (by simpa using hi)]
          exact fun hxs => ha (ltT (h.head _ (List.getElem_mem _)) hxs)
        unfold geAt
        rw [decide_eq_false hx]
        simp

set_option maxHeartbeats 1000000 in
theorem place_turn (l : List Ent) (s : List UInt8) (A : Option Addr) (c i ba bs : Nat) (w : World) (hl : Ents w (.slice A l.length c) l) (hi : i < l.length) (hn : l.length ≤ 1000000)
    (ha : w.cell? ⟨ba, 0, none⟩ = some (.slice A l.length c)) (hs : w.cell? ⟨bs, 0, none⟩ = some (.string ⟨s.toArray⟩)) :
    Calls Try.prog 38 #[.int .i64 (i : Int), .pointer (some ⟨ba, 0, none⟩), .pointer (some ⟨bs, 0, none⟩)] w fun e w' => e = .returned (.bool (geAt l s i)) ∧ ∃ n, w' = w.drewN n := by
  obtain ⟨b, off, rfl, hb, hc, hc1, hc2⟩ := hl.at i hi
  have hg : l[i] = l.getD i ([], 0) := (gete l i hi).symm
  rw [hg] at hc1 hc2
  unfold geAt
  generalize l.getD i ([], 0) = x at *
  clear hg hl
  have hi1 : (i : Int) < (l.length : Int) := by omega
  have hi0 : (0 : Int) ≤ (i : Int) := by omega
  go_enter Try.func38, Try.ntmps38
  go_wp2_with fail
  go_quiet (fail)
  go_wp2_with fail
  go_ret
  exact ⟨by rw [← less_eq]; rfl, _, rfl⟩

set_option maxHeartbeats 2000000 in
theorem sort_Search (l : List Ent) (s : List UInt8) (A : Option Addr) (c ba bs : Nat) (w : World) (hl : Ents w (.slice A l.length c) l) (hn : l.length ≤ 1000000) (hsrt : Srt l)
    (ha : w.cell? ⟨ba, 0, none⟩ = some (.slice A l.length c)) (hs : w.cell? ⟨bs, 0, none⟩ = some (.string ⟨s.toArray⟩)) :
    Calls Try.prog 37 #[.int .i64 (l.length : Int), .func (.func 38) #[] #[.pointer (some ⟨ba, 0, none⟩), .pointer (some ⟨bs, 0, none⟩)]] w fun e w' => e = .returned (.int .i64 (pos l s : Int)) ∧ ∃ n, w' = w.drewN n := by
  have hp := pos_le l s
  have HG := Lib.hid (geAt_lt (s := s) hsrt)
  have HT := Lib.hid (fun (i m : Nat) (hi : i < l.length) => place_turn l s A c i ba bs (w.drewN m) hl hi hn ha hs)
  clear hl hsrt ha hs
  go_enter Try.func37, Try.ntmps37
  go_wp2_with fail
  go_loopw [5, 6] (fun si sj wr => ∃ i j n : Nat, si = .int .i64 i ∧ sj = .int .i64 j ∧ i ≤ pos l s ∧ pos l s ≤ j ∧ j ≤ l.length ∧ wr = w.drewN n) (fun si sj _ => (intOf sj).toNat - (intOf si).toNat)
  case atStart => exact ⟨0, l.length, 0, rfl, rfl, Nat.zero_le _, hp, Nat.le_refl _, rfl⟩
  case round =>
    obtain ⟨i, j, n, rfl, rfl, hi, hj, hjl, rfl⟩ := hrel
    by_cases hlt : i < j
    · have hmid : ((i : Int) + j) / 2 = (((i + j) / 2 : Nat) : Int) := by omega
      obtain ⟨m, hm⟩ : ∃ m, m = (i + j) / 2 := ⟨_, rfl⟩
      have hm1 : i ≤ m := by omega
      have hm2 : m < j := by omega
      rw [← hm] at hmid
      have hC := HT.out m n (by omega)
      rw [HG.out m (by omega)] at hC
      have HC := Lib.hid hC
      clear hC hm
      by_cases hge : pos l s ≤ m
      · have hd : decide (pos l s ≤ m) = true := by simpa using hge
        rw [hd] at HC
        clear hd
        go_wp2_with fail
        refine HC.out.mono ?_
        rintro e w1 ⟨rfl, n1, rfl⟩
        go_wp2_with fail
        go_roundw
        case rel => exact ⟨i, m, _, rfl, rfl, hi, hge, by omega, rfl⟩
        case measure => simp [intOf]; omega
      · have hd : decide (pos l s ≤ m) = false := by simpa using hge
        rw [hd] at HC
        clear hd
        go_wp2_with fail
        refine HC.out.mono ?_
        rintro e w1 ⟨rfl, n1, rfl⟩
        go_wp2_with fail
        go_roundw
        case rel => exact ⟨m + 1, j, _, by go_num, rfl, by omega, hj, hjl, rfl⟩
        case measure => simp [intOf]; omega
    · obtain rfl : i = pos l s := by omega
      go_wp2_with fail
      go_ret
      exact ⟨rfl, _, rfl⟩

set_option maxHeartbeats 2000000 in
theorem name_place (l : List Ent) (s : List UInt8) (A : Option Addr) (c : Nat) (w : World) (hl : Ents w (.slice A l.length c) l) (hn : l.length ≤ 1000000) (hsrt : Srt l) :
    Calls Try.prog 31 #[.slice A l.length c, .string ⟨s.toArray⟩] w fun e w' => e = .returned (.tuple #[.int .i64 (pos l s : Int), .bool (isAt l s)]) ∧ Below w.heap.size w w' := by
  obtain ⟨W, hW⟩ : ∃ W, W = (w.alloc (.cells #[.slice A l.length c] 22)).alloc (.cells #[.string ⟨s.toArray⟩] 9) := ⟨_, rfl⟩
  have hb : Below w.heap.size w W := by rw [hW]; exact ((Below.refl _ _).alloc (Nat.le_refl _) _).alloc (by simp) _
  have c0 : W.cell? ⟨w.heap.size, 0, none⟩ = some (.slice A l.length c) := by rw [hW]; simp [go_sem]
  have c1 : W.cell? ⟨w.heap.size + 1, 0, none⟩ = some (.string ⟨s.toArray⟩) := by rw [hW]; simp [go_sem]
  have HC := Lib.hid (sort_Search l s A c w.heap.size (w.heap.size + 1) W (hl.below hb) hn hsrt c0 c1)
  have hat := at_pos hsrt s
  have hp := pos_le l s
  have HW := Lib.hid hW
  have HB := Lib.hid hb
  by_cases hlt : pos l s < l.length
  · obtain ⟨b, off, rfl, hbk, hc, hc1, hc2⟩ := (hl.below hb).at (pos l s) hlt
    rw [List.getElem?_eq_getElem hlt, Option.any_some] at hat
    have HAT := Lib.hid hat
    have hi1 : (pos l s : Int) < (l.length : Int) := by omega
    have hi0 : (0 : Int) ≤ (pos l s : Int) := by omega
    clear hl hsrt hat hW hb
    generalize l[pos l s] = x at *
    generalize isAt l s = q at *
    generalize pos l s = k at *
    go_enter Try.func31, Try.ntmps31
    go_wp2_with fail
    rw [← HW.out]
    refine HC.out.mono ?_
    rintro e w1 ⟨rfl, n1, rfl⟩
    go_wp2_with fail
    go_quiet (fail)
    go_wp2_with fail
    go_ret2
    exact ⟨by rw [← HAT.out]; rfl, below_dn (below_dn HB.out _) _⟩
  · rw [List.getElem?_eq_none (by omega), Option.any_none] at hat
    have HAT := Lib.hid hat
    have hpl : pos l s = l.length := by omega
    rw [hpl] at HC ⊢
    have hd : decide ((l.length : Int) < (l.length : Int)) = false := by simp
    clear hl hsrt hat hb hlt hp hpl hW
    generalize isAt l s = q at *
    go_enter Try.func31, Try.ntmps31
    go_wp2_with fail
    rw [← HW.out]
    refine HC.out.mono ?_
    rintro e w1 ⟨rfl, n1, rfl⟩
    go_wp2_with fail
    go_quiet (fail)
    go_wp2_with fail
    go_ret2
    exact ⟨by rw [← HAT.out]; rfl, below_dn (below_dn HB.out _) _⟩

/-- what is found -/
def findR (l : List Ent) (s : List UInt8) : Value := .tuple #[.int .i64 ((getE l s).getD 0), .bool (isAt l s)]

set_option maxHeartbeats 2000000 in
theorem name_Find (l : List Ent) (s : List UInt8) (A : Option Addr) (c : Nat) (w : World) (hl : Ents w (.slice A l.length c) l) (hn : l.length ≤ 1000000) (hsrt : Srt l) :
    Calls Try.prog 18 #[.slice A l.length c, .string ⟨s.toArray⟩] w fun e w' => e = .returned (findR l s) ∧ Below w.heap.size w w' := by
  have HC := Lib.hid (name_place l s A c w hl hn hsrt)
  unfold findR
  cases hi : isAt l s with
  | true =>
    obtain ⟨x, hx1, hx2, hx3⟩ := get_pos hsrt hi
    obtain ⟨hlt, hxe⟩ := List.getElem?_eq_some_iff.1 hx1
    obtain ⟨b, off, rfl, hbk, hc, hc1, hc2⟩ := hl.at (pos l s) hlt
    rw [hxe] at hc2
    rw [hx3, Option.getD_some]
    rw [hi] at HC
    have HC2 := Lib.hid hc2
    have hi1 : (pos l s : Int) < (l.length : Int) := by omega
    have hi0 : (0 : Int) ≤ (pos l s : Int) := by omega
    clear hl hsrt hc1 hc2 hx1 hx2 hx3 hxe hi
    generalize pos l s = k at *
    go_enter Try.func18, Try.ntmps18
    go_wp2_with fail
    refine HC.out.mono ?_
    rintro e w1 ⟨rfl, hb1⟩
    have hc2 := cell_keep hb1 HC2.out
    have HB1 := Lib.hid hb1
    clear hb1
    go_wp2_with fail
    go_ret2
    exact ⟨rfl, HB1.out⟩
  | false =>
    rw [get_none hi, Option.getD_none]
    rw [hi] at HC
    clear hl hsrt hi
    go_enter Try.func18, Try.ntmps18
    go_wp2_with fail
    refine HC.out.mono ?_
    rintro e w1 ⟨rfl, hb1⟩
    have HB1 := Lib.hid hb1
    clear hb1
    go_wp2_with fail
    go_ret2
    exact ⟨rfl, HB1.out⟩
end Go.Proofs.Ytjeejnjomgcplaa
