/- copyholdref07.Whole, copyholdref15.numbers: the document's own answers; old memory is as it was. -/
import Derived.Test.YtpojhcpkmpbflaaWireP4
import Derived.Test.YtpojhcpkmpbflaaWireOpen
import Derived.Test.YtpojhcpkmpbflaaRef01Take
set_option linter.unusedVariables false
set_option linter.unusedSimpArgs false
namespace Go.Proofs.Ytpojhcpkmpbflaa
open Go.RowKit Copyhold

set_option maxHeartbeats 2000000 in
theorem ref07_Whole (l : List UInt8) (w : World) (hl : l.length ≤ 140737488355328) :
    Calls Try.prog 60 #[.string ⟨l.toArray⟩] w fun e w' => e = .returned (.tuple #[.int .i64 (takeWhole l).1, .string ⟨(takeWhole l).2.1.toArray⟩, .int .i64 (takeWhole l).2.2]) ∧ Below w.heap.size w w' := by
  have hbd := takeNum_bd l
  have HT := Lib.hid (ref_TakeNum l w hl)
  have HD : Hid (takeWhole l = (unfoldN ((takeNum l).1 : Int), (takeNum l).2.1, (takeNum l).2.2)) := Lib.hid rfl
  generalize takeNum l = x at *
  obtain ⟨n, r, e⟩ := x
  simp only at HT HD hbd
  have HU := Lib.hid (fun W => ref_Unfold (n : Int) W (by omega) (by omega))
  have HBD := Lib.hid hbd
  clear hbd
  go_enter Try.func60, Try.ntmps60
  go_wp2_with fail
  refine HT.out.mono ?_
  rintro e w1 ⟨rfl, hb1⟩
  have HB1 := Lib.hid hb1
  clear hb1
  go_wp2_with fail
  refine (HU.out _).mono ?_
  rintro e w2 ⟨rfl, rfl⟩
  go_wp2_with fail
  go_ret3
  exact ⟨by rw [HD.out]; rfl, HB1.out⟩

theorem intElem : Elem Try.prog 76 3 (.int .i64 0) 1 8 := ⟨Try.underlying76, by kernel_rfl, by kernel_rfl, by decide⟩
/-- some numbers that are handed back, what is left, an error -/
def RetNums (w : World) (q : List Int × List UInt8 × Int) (e : Ending) (w' : World) : Prop :=
  ∃ A c, e = .returned (.tuple #[.slice A q.1.length c, .string ⟨q.2.1.toArray⟩, .int .i64 q.2.2]) ∧ w'.ownsRow w.heap.size 3 1 (.slice A q.1.length c) q.1.length (q.1.map (Value.int .i64)) ∧ Below w.heap.size w w'
/-- what is taken in all, where k were taken, and t is left -/
def NumsAt (q : List Int × List UInt8 × Int) (acc : List Int) (r : List Int × List UInt8 × Int) : Prop :=
  q = if r.2.2 = 0 then (acc ++ r.1, r.2) else ([], [], r.2.2)

theorem owns_open {w : World} {base : Nat} {e : TypeId} {v : Value} {n : Nat} {xs : List Value} (h : w.ownsRow base e 1 v n xs) (h0 : 0 < n) :
    ∃ g cap, v = .slice (some ⟨g, 0, none⟩) n cap ∧ base ≤ g ∧ g < w.heap.size ∧ n ≤ cap ∧ ∀ (i : Nat) x, xs[i]? = some x → w.cell? ⟨g, i, none⟩ = some x := by
  have hl : xs.length = n := by simpa using h.1
  rcases h.2 with ⟨rfl, rfl⟩ | ⟨g, cap, cur, rfl, hb, hgg, hnc, _, _, htake⟩
  · exact absurd h0 (by omega)
  · refine ⟨g, cap, rfl, hb, (Array.getElem?_eq_some_iff.1 hgg).1, by omega, fun i x hx => ?_⟩
    have h' := h.cells (g := g) rfl i x hx
    have hadd : (⟨g, 0, none⟩ : Addr).add i = ⟨g, 0 + i, none⟩ := by unfold Addr.add; split <;> simp_all
    rw [hadd, Nat.zero_add] at h'
    exact h'
/-- what stays where one box alone is filled -/
theorem OpenW.cell {w w' : World} {M : Nat} (h : OpenW w M w') {b o : Nat} {v : Value} (hc : w.cell? ⟨b, o, none⟩ = some v) (hne : b ≠ M) : w'.cell? ⟨b, o, none⟩ = some v :=
  (World.cell?_of_block (h.1 b hne (cell_lt hc))).trans hc
theorem OpenW.drew (w : World) (M : Nat) : OpenW w M w.drew := OpenW.of (below_dn (Below.refl _ _) 1)

set_option maxRecDepth 100000 in
set_option maxHeartbeats 4000000 in
theorem ref15_numbers (s : List UInt8) (m : Nat) (w : World) (hl : s.length ≤ 2147483648) (hm : m ≤ 100) :
    Calls Try.prog 40 #[.string ⟨s.toArray⟩, .int .i64 m] w (RetNums w (numsT m s)) := by
  have hq : NumsAt (numsT m s) [] (numsT m s) := by
    unfold NumsAt
    split
    · rfl
    · rename_i h
      rw [numsT_st] at h ⊢
      split at h
      · rename_i h2; exact absurd h2 h
      · rename_i h2; rw [if_neg h2]
  obtain ⟨q, hqq⟩ : ∃ q, q = numsT m s := ⟨_, rfl⟩
  have HQ := Lib.hid (show NumsAt q [] (numsT (m - 0) s) from by rw [hqq]; exact hq)
  rw [← hqq]
  clear hq hqq
  go_enter Try.func40, Try.ntmps40
  go_wp2_with fail
  go_loopw [7, 8, 0] (fun sp si st wr => ∃ (k : Nat) (t : List UInt8) (acc : List Int), si = .int .i64 k ∧ k ≤ m ∧ st = .string ⟨t.toArray⟩ ∧ t.length ≤ s.length ∧ acc.length = k ∧ NumsAt q acc (numsT (m - k) t) ∧ wr.ownsRow w.heap.size 3 1 sp acc.length (acc.map (Value.int .i64)) ∧ Below w.heap.size w wr) (fun _ si _ _ => m - (intOf si).toNat)
  case atStart => exact ⟨0, s, [], rfl, Nat.zero_le _, rfl, Nat.le_refl _, rfl, HQ.out, World.ownsRow_nil _ _ _ _, Below.refl _ _⟩
  case round =>
    obtain ⟨k, t, acc, rfl, hk, rfl, ht, hacc, hat, hown, hb⟩ := hrel
    obtain ⟨A, c, rfl, -, -⟩ := (Sl.of_owns hown).shape
    have HO := Lib.hid hown
    have HB := Lib.hid hb
    have HA := Lib.hid hat
    have HC := Lib.hid hacc
    clear hown hb hat hacc HQ
    by_cases hlt : k < m
    · have hmk : m - k = (m - (k + 1)) + 1 := by omega
      have hun : numsT (m - k) t = if (takeWhole t).2.2 = 0 then (if (numsT (m - (k + 1)) (takeWhole t).2.1).2.2 = 0 then ((takeWhole t).1 :: (numsT (m - (k + 1)) (takeWhole t).2.1).1, (numsT (m - (k + 1)) (takeWhole t).2.1).2) else ([], [], (numsT (m - (k + 1)) (takeWhole t).2.1).2.2)) else ([], [], (takeWhole t).2.2) := by rw [hmk]; rfl
      have HU := Lib.hid hun
      have HW := Lib.hid (fun W => ref07_Whole t W (by omega))
      have hbd := (takeWhole_bd t).2.1
      clear hmk hun
      generalize takeWhole t = x at *
      obtain ⟨z, t2, er⟩ := x
      simp only at HU HW hbd
      have hi1 : (k : Int) < (m : Int) := by omega
      have hacl : acc.length ≤ 100 := by rw [HC.out]; omega
      go_wp2_with fail
      refine (HW.out _).mono ?_
      rintro e w2 ⟨rfl, hb2⟩
      have HO2 := Lib.hid (owns_below HO.out hb2)
      have HB2 := Lib.hid (below_trans HB.out hb2 HB.out.size)
      clear hb2
      by_cases he : er = 0
      · subst he
        have hnext : NumsAt q (acc ++ [z]) (numsT (m - (k + 1)) t2) := by
          have h := HA.out
          rw [HU.out] at h
          unfold NumsAt at h ⊢
          rw [if_pos rfl] at h
          rw [h]
          split
          · simp
          · rfl
        have HN := Lib.hid hnext
        clear hnext
        obtain ⟨v', w', hrun, ho', hg', hb'⟩ := append_sl intElem (w2.alloc (.cells #[.int .i64 z] 3)) w.heap.size 76 _ _ _ (HO2.out.alloc _) _ 1 [.int .i64 z] (sl_one w2 (.int .i64 z) _) (fun u hu => by simp at hu; subst hu; rfl) (by unfold maxLen; omega) (by omega) (by have := HB2.out.size; simp; omega)
        have HO3 := Lib.hid ho'
        have HB3 := Lib.hid ((HB2.out.alloc HB2.out.size _).grown hg' (by have := HB2.out.size; simp; omega) (fun g hg => (own_block_ge HO2.out g hg).1))
        clear ho' hg' hb'
        go_wp2_with (at_builtin; refine wpList_append_run rfl _ _ _ rfl _ _ _ _ rfl rfl hrun ?_)
        go_roundw
        case rel => exact ⟨k + 1, t2, acc ++ [z], by go_num, by omega, rfl, by omega, by rw [List.length_append, HC.out]; rfl, HN.out, by rw [List.length_append, List.map_append]; exact HO3.out, HB3.out⟩
        case measure => simp [intOf]; omega
      · have hne : (er == 0) = false := by simpa using he
        have hne2 : (er != 0) = true := by simpa using he
        have hfin : q = ([], [], er) := by
          have h := HA.out
          rw [HU.out] at h
          unfold NumsAt at h
          rw [if_neg he] at h
          simp only [he, if_false] at h
          exact h
        have HF := Lib.hid hfin
        clear he hfin
        go_wp2_with fail
        go_ret3
        exact ⟨none, 0, by rw [HF.out]; rfl, by rw [HF.out]; exact World.ownsRow_nil _ _ _ _, HB2.out⟩
    · obtain rfl : k = m := by omega
      have hfin : q = (acc, t, 0) := by
        have h := HA.out
        rw [Nat.sub_self] at h
        unfold NumsAt numsT at h
        simpa using h
      have HF := Lib.hid hfin
      clear hfin
      go_wp2_with fail
      go_ret3
      exact ⟨A, c, by rw [HF.out]; rfl, by rw [HF.out]; exact HO.out, HB.out⟩
end Go.Proofs.Ytpojhcpkmpbflaa
