/- span.Has and what it is made of: over spans of whole numbers it answers whether one of them has a place; old memory is as it was. -/
import Derived.Test.YtcckbiaigcideaaSpanLaw
import Derived.Test.YtcckbiaigcideaaMem
import Derived.Shelf.Abstract
set_option linter.unusedVariables false
namespace Go.Proofs.Ytcckbiaigcideaa
open Go.RowKit Copyhold

/-- a span as a cell -/
def spV (x : Nat × Nat) : Value := .complex .f64 (fl x.1) (fl x.2)
/-- does one have a place? -/
def hasOne (p : Nat × Nat) (t : Int) : Bool := decide ((p.1 : Int) ≤ t) && decide (t < (p.1 : Int) + p.2)
def hasD (xs : List (Nat × Nat)) (t : Int) : Bool := xs.any (hasOne · t)

set_option maxHeartbeats 1000000 in
theorem has_turn (a b : Nat) (t : Int) (ba bh : Nat) (h0 : Bool) (w : World) (h : a + b ≤ 1099511627776) (ha : w.cell? ⟨ba, 0, none⟩ = some (.int .i64 t)) (hab : ba ≠ bh) (hh : w.cell? ⟨bh, 0, none⟩ = some (.bool h0)) (hf : w.frozen? ⟨bh, 0, none⟩ = false) :
    Calls Try.prog 40 #[.int .i64 a, .int .i64 ((a : Int) + b), .pointer (some ⟨ba, 0, none⟩), .pointer (some ⟨bh, 0, none⟩)] w fun e w' => e = .returned (.bool (!hasOne (a, b) t)) ∧ w' = w.setCell ⟨bh, 0, none⟩ (.bool (hasOne (a, b) t)) := by
  rcases (show t < (a : Int) ∨ (a : Int) ≤ t ∧ t < (a : Int) + b ∨ (a : Int) ≤ t ∧ (a : Int) + b ≤ t from by omega) with h1 | ⟨h1, h2⟩ | ⟨h1, h2⟩
  · have e : hasOne (a, b) t = false := by simp [hasOne]; omega
    rw [e]
    clear e
    have hd : decide ((a : Int) ≤ t) = false := by simp; omega
    go_enter Try.func40, Try.ntmps40
    go_wp2_with fail
    go_ret
    exact ⟨rfl, rfl⟩
  · have e : hasOne (a, b) t = true := by simp [hasOne]; omega
    rw [e]
    clear e
    go_enter Try.func40, Try.ntmps40
    go_wp2_with fail
    go_ret
    exact ⟨rfl, rfl⟩
  · have e : hasOne (a, b) t = false := by simp [hasOne]; omega
    rw [e]
    clear e
    have hd : decide (t < (a : Int) + b) = false := by simp; omega
    go_enter Try.func40, Try.ntmps40
    go_wp2_with fail
    go_ret
    exact ⟨rfl, rfl⟩

/-- what each leaves: the answer in its cell, all else as it was -/
def EachIs (w : World) (bh : Nat) (r : Bool) (e : Ending) (w' : World) : Prop := e = .returned (.tuple #[]) ∧ w'.cell? ⟨bh, 0, none⟩ = some (.bool r) ∧ w.grownBy w' (some bh)

set_option maxHeartbeats 1000000 in
theorem each_has (xs : List (Nat × Nat)) (A : Option Addr) (c : Nat) (t : Int) (ba bh : Nat) (w : World) (hr : Row w (.slice A xs.length c) (xs.map spV)) (hat : At (· ≠ bh) (.slice A xs.length c)) (hn : xs.length ≤ 1000) (hs : ∀ p ∈ xs, p.1 + p.2 ≤ 1099511627776)
    (ha : w.cell? ⟨ba, 0, none⟩ = some (.int .i64 t)) (hab : ba ≠ bh) (hh : w.cell? ⟨bh, 0, none⟩ = some (.bool false)) (hf : w.frozen? ⟨bh, 0, none⟩ = false) :
    Calls Try.prog 38 #[.slice A xs.length c, .func (.func 40) #[] #[.pointer (some ⟨ba, 0, none⟩), .pointer (some ⟨bh, 0, none⟩)]] w (EachIs w bh (hasD xs t)) := by
  have HR := Lib.hid hr
  have HAT := Lib.hid hat
  have HS := Lib.hid hs
  clear hr hat hs
  go_enter Try.func38, Try.ntmps38
  go_wp2_with fail
  go_loopw [8] (fun si wr => ∃ k : Nat, si = .int .i64 k ∧ k ≤ xs.length ∧ hasD (xs.take k) t = false ∧ wr.cell? ⟨bh, 0, none⟩ = some (.bool false) ∧ wr.frozen? ⟨bh, 0, none⟩ = false ∧ w.grownBy wr (some bh)) (fun si _ => xs.length - (intOf si).toNat)
  case atStart => exact ⟨0, rfl, Nat.zero_le _, rfl, hh, hf, World.grownBy.refl _ _⟩
  case round =>
    obtain ⟨k, rfl, hk, hpre, g0, f0, hgr⟩ := hrel
    have HP := Lib.hid hpre
    have HG := Lib.hid hgr
    have ha' : wr.cell? ⟨ba, 0, none⟩ = some (.int .i64 t) := (World.cell?_of_block (hgr.block ba (cell_lt ha) (by intro e; simp at e; exact hab e))).trans ha
    clear hpre hgr
    by_cases hlt : k < xs.length
    · obtain ⟨p, hp⟩ : ∃ p, p = xs[k] := ⟨_, rfl⟩
      have hsm := HS.out p (by rw [hp]; exact List.getElem_mem _)
      have hget : (xs.map spV)[k]? = some (spV p) := by rw [List.getElem?_map, List.getElem?_eq_getElem hlt, hp]; rfl
      have hrow : Row wr (.slice A xs.length c) (xs.map spV) := HR.out.frame HAT.out (fun b hb hl => HG.out.block b hl (by intro e; simp at e; exact hb e)) HG.out.size
      obtain ⟨b, off, rfl, hbk, hlen, hcl⟩ := hrow.at k hget
      have hcell : wr.cell? ⟨b, off + k, none⟩ = some (.complex .f64 (fl p.1) (fl p.2)) := hcl k _ hget
      have hnext : hasD (xs.take (k + 1)) t = hasOne p t := by
        rw [List.take_succ_eq_append_getElem hlt, ← hp]
        have := HP.out
        unfold hasD at this ⊢
        rw [List.any_append, this]
        simp
      have hall : hasOne p t = true → hasD xs t = true := fun h => by
        unfold hasD
        rw [List.any_eq_true]
        exact ⟨p, by rw [hp]; exact List.getElem_mem _, h⟩
      have HNX := Lib.hid hnext
      have HALL := Lib.hid hall
      clear hnext hall hrow hcl hget hp
      go_wp2_with fail
      refine (span_ends p.1 p.2 _ (by omega) (by omega)).mono ?_
      rintro e w1 ⟨rfl, rfl⟩
      go_wp2_with fail
      refine (has_turn p.1 p.2 t ba bh false _ hsm ha' hab g0 f0).mono ?_
      rintro e w1 ⟨rfl, rfl⟩
      have hgs : w.grownBy (wr.setCell ⟨bh, 0, none⟩ (.bool (hasOne (p.1, p.2) t))) (some bh) := ⟨HG.out.os, HG.out.tape, HG.out.output, by simpa using HG.out.size, fun i hi hne => (heap_setCell_far _ _ _ _ (by intro e; exact hne (by rw [e]))).trans (HG.out.block i hi hne)⟩
      have HGS := Lib.hid hgs
      have hc1 := World.cell?_setCell_same wr ⟨bh, 0, none⟩ (.bool (hasOne (p.1, p.2) t)) g0
      have hf1 : (wr.setCell ⟨bh, 0, none⟩ (.bool (hasOne (p.1, p.2) t))).frozen? ⟨bh, 0, none⟩ = false := by simp [go_sem, f0]
      obtain ⟨W, hW⟩ : ∃ W, W = wr.setCell ⟨bh, 0, none⟩ (.bool (hasOne (p.1, p.2) t)) := ⟨_, rfl⟩
      rw [← hW] at hc1 hf1 HGS ⊢
      have HC1 := Lib.hid hc1
      have HF1 := Lib.hid hf1
      have hpp : (p.1, p.2) = p := rfl
      rw [hpp] at HC1
      rw [hpp]
      clear hgs hc1 hf1 hW g0 f0 hpp
      generalize hq : hasOne p t = q at *
      clear hq
      cases q
      · go_wp2_with fail
        go_roundw
        case rel => exact ⟨k + 1, by go_num, by omega, HNX.out, HC1.out, HF1.out, HGS.out⟩
        case measure => simp [intOf]; omega
      · go_wp2_with fail
        refine bodyPost_ret (v := .tuple #[]) (by simp [results, Try.results38]) rfl ⟨rfl, ?_, HGS.out⟩
        rw [HALL.out trivial]
        exact HC1.out
    · have hfin : hasD xs t = false := by
        have := HP.out
        rwa [List.take_of_length_le (by omega)] at this
      have HFIN := Lib.hid hfin
      clear hfin
      go_wp2_with fail
      refine bodyPost_end (v := .tuple #[]) (by simp [results, Try.results38]) rfl ⟨rfl, ?_, HG.out⟩
      rw [HFIN.out]
      exact g0

set_option maxHeartbeats 1000000 in
theorem span_Has (xs : List (Nat × Nat)) (A : Option Addr) (c : Nat) (t : Int) (w : World) (hr : Row w (.slice A xs.length c) (xs.map spV)) (hn : xs.length ≤ 1000) (hs : ∀ p ∈ xs, p.1 + p.2 ≤ 1099511627776) :
    Calls Try.prog 26 #[.slice A xs.length c, .int .i64 t] w fun e w' => e = .returned (.bool (hasD xs t)) ∧ Below w.heap.size w w' := by
  obtain ⟨W, hW⟩ : ∃ W, W = (w.alloc (.cells #[.int .i64 t] 3)).alloc (.cells #[.bool false] 4) := ⟨_, rfl⟩
  have hb : Below w.heap.size w W := by rw [hW]; exact ((Below.refl _ _).alloc (Nat.le_refl _) _).alloc (by simp) _
  have c0 : W.cell? ⟨w.heap.size, 0, none⟩ = some (.int .i64 t) := by rw [hW]; simp [go_sem]
  have c1 : W.cell? ⟨w.heap.size + 1, 0, none⟩ = some (.bool false) := by rw [hW]; simp [go_sem]
  have f1 : W.frozen? ⟨w.heap.size + 1, 0, none⟩ = false := by rw [hW]; simp [go_sem]
  have HC := Lib.hid (each_has xs A c t w.heap.size (w.heap.size + 1) W (hr.below hb) (hr.lies.mono fun b hb => by omega) hn hs c0 (by omega) c1 f1)
  have HW := Lib.hid hW
  have HB := Lib.hid hb
  clear hr hs hW hb c0 c1 f1
  go_enter Try.func26, Try.ntmps26
  go_wp2_with fail
  rw [← HW.out]
  refine HC.out.mono ?_
  rintro e w1 ⟨rfl, hc1, hgr⟩
  have hb1 : Below w.heap.size w w1 := HB.out.grown hgr (by have := HB.out.size; omega) (fun g hg => by injection hg with hg; omega)
  have HB1 := Lib.hid hb1
  clear hb1 hgr
  go_wp2_with fail
  go_ret
  exact ⟨rfl, HB1.out⟩
end Go.Proofs.Ytcckbiaigcideaa
