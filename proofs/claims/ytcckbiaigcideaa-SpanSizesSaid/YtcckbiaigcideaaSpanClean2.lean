/- span.Clean: it answers with the clean row of the row's places; span.Size: how many places there are; old memory is as it was. -/
import Derived.Test.YtcckbiaigcideaaSpanClean1
set_option linter.unusedVariables false
set_option linter.unusedSimpArgs false
namespace Go.Proofs.Ytcckbiaigcideaa
open Go.RowKit Copyhold

theorem endOf_last (pre : List (Nat × Nat)) (l : Nat × Nat) : endOf (-1) (pre ++ [l]) = (l.1 : Int) + l.2 := endOf_snoc pre (-1) l
theorem turn_any (xs : List (Nat × Nat)) (k h bo : Nat) (hk : k < xs.length) (w3 : World) (A : Option Addr) (c : Nat) (out : List (Nat × Nat)) (WR : World) (hs : ∀ p ∈ xs, p.1 + p.2 ≤ 1099511627776) (ha : Asc xs) (hn : xs.length ≤ 1000) (hi : Inv xs k out) (hB : Box3 h w3 bo A c out WR) (h3 : h ≤ w3.heap.size) :
    Calls Try.prog 39 #[.int .i64 (xs[k].1 : Nat), .int .i64 ((xs[k].1 : Int) + xs[k].2), .pointer (some ⟨bo, 0, none⟩)] WR fun e w' => e = .returned (.bool true) ∧ ∃ A c out', Inv xs (k + 1) out' ∧ Box3 h w3 bo A c out' w' := by
  have hbl := cell_lt hB.cell
  have hp := hs xs[k] (List.getElem_mem hk)
  by_cases h0 : xs[k].2 = 0
  · have hi' := hi.skip hk h0
    rw [h0]
    refine (turn_skip xs[k].1 bo WR).mono ?_
    rintro e w' ⟨rfl, rfl⟩
    exact ⟨rfl, A, c, out, hi', hB⟩
  · rcases (show out = [] ∨ ∃ pre l, out = pre ++ [l] from by
      rcases List.eq_nil_or_concat out with h | ⟨pre, l, h⟩
      · exact .inl h
      · exact .inr ⟨pre, l, by rw [h, List.concat_eq_append]⟩) with rfl | ⟨pre, l, rfl⟩
    · have hi' := hi.push hk h0 hp ha (by show (-1 : Int) < _; omega)
      refine (turn_push0 xs[k].1 xs[k].2 h bo w3 A c WR hB h3 hbl h0 hp).mono ?_
      rintro e w' ⟨rfl, A', c', hB'⟩
      exact ⟨rfl, A', c', _, hi', hB'⟩
    · have hl := hi.top l (List.mem_append.2 (.inr (List.mem_singleton.2 rfl)))
      have hlen := hi.len
      rw [List.length_append, List.length_singleton] at hlen
      by_cases hle : xs[k].1 ≤ l.1 + l.2
      · have hi' := hi.join hk h0 hp hle
        refine (turn_join xs[k].1 xs[k].2 h bo w3 A c pre l WR hB h3 hbl h0 hp (by omega) hl hle).mono ?_
        rintro e w' ⟨rfl, A', c', hB'⟩
        exact ⟨rfl, A', c', _, hi', hB'⟩
      · have hi' := hi.push hk h0 hp ha (by rw [endOf_last]; omega)
        refine (turn_push xs[k].1 xs[k].2 h bo w3 A c pre l WR hB h3 hbl h0 hp (by omega) hl (by omega)).mono ?_
        rintro e w' ⟨rfl, A', c', hB'⟩
        exact ⟨rfl, A', c', _, hi', hB'⟩

set_option maxHeartbeats 2000000 in
theorem each_clean (xs : List (Nat × Nat)) (hs : ∀ p ∈ xs, p.1 + p.2 ≤ 1099511627776) (ha : Asc xs) (hn : xs.length ≤ 1000) (A0 : Option Addr) (c0 bo : Nat) (w3 w : World) (hr : Sps w3 A0 c0 xs) (A : Option Addr) (c : Nat) (hB : Box3 w3.heap.size w3 bo A c [] w) :
    Calls Try.prog 38 #[.slice A0 xs.length c0, .func (.func 39) #[] #[.pointer (some ⟨bo, 0, none⟩)]] w fun e w' => e = .returned (.tuple #[]) ∧ ∃ A c out, Inv xs xs.length out ∧ Box3 w3.heap.size w3 bo A c out w' := by
  have HR := Lib.hid hr
  have HT := Lib.hid (fun k hk A c out WR hi hB => turn_any xs k w3.heap.size bo hk w3 A c out WR hs ha hn hi hB (Nat.le_refl _))
  have HS := Lib.hid hs
  have HB := Lib.hid hB
  clear hr hs ha hB
  go_enter Try.func38, Try.ntmps38
  go_wp2_with fail
  go_loopw [8] (fun si wr => ∃ (k : Nat) (A : Option Addr) (c : Nat) (out : List (Nat × Nat)), si = .int .i64 k ∧ k ≤ xs.length ∧ Inv xs k out ∧ Box3 w3.heap.size w3 bo A c out wr) (fun si _ => xs.length - (intOf si).toNat)
  case atStart => exact ⟨0, A, c, [], rfl, Nat.zero_le _, Inv.start xs, HB.out⟩
  case round =>
    obtain ⟨k, A1, c1, out, rfl, hk, hinv, hbox⟩ := hrel
    clear HB
    by_cases hlt : k < xs.length
    · have hrow : Row wr (.slice A0 xs.length c0) (xs.map spV) := (HR.out.below hbox.below).2.row
      have hget : (xs.map spV)[k]? = some (spV xs[k]) := by rw [List.getElem?_map, List.getElem?_eq_getElem hlt]; rfl
      obtain ⟨b, off, rfl, hbk, hlen, hcl⟩ := hrow.at k hget
      have hcell : wr.cell? ⟨b, off + k, none⟩ = some (.complex .f64 (fl xs[k].1) (fl xs[k].2)) := hcl k _ hget
      have hsm := HS.out xs[k] (List.getElem_mem hlt)
      have HC := Lib.hid (HT.out k hlt A1 c1 out wr hinv hbox)
      generalize xs[k] = p at *
      clear hrow hcl hget hinv hbox
      go_wp2_with fail
      refine (span_ends p.1 p.2 _ (by omega) (by omega)).mono ?_
      rintro e w1 ⟨rfl, rfl⟩
      go_wp2_with fail
      refine HC.out.mono ?_
      rintro e w1 ⟨rfl, A2, c2, out2, hi2, hb2⟩
      have HI := Lib.hid hi2
      have HB2 := Lib.hid hb2
      clear hi2 hb2 HC
      go_wp2_with fail
      go_roundw
      case rel => exact ⟨k + 1, A2, c2, out2, by go_num, by omega, HI.out, HB2.out⟩
      case measure => simp [intOf]; omega
    · obtain rfl : k = xs.length := by omega
      have HI := Lib.hid hinv
      have HB2 := Lib.hid hbox
      clear hinv hbox
      go_wp2_with fail
      refine bodyPost_end (v := .tuple #[]) (by simp [results, Try.results38]) rfl ⟨rfl, A1, c1, out, HI.out, HB2.out⟩

theorem make_room {t e : TypeId} {z : Value} {bytes : Nat} (E : Elem Try.prog t e z 1 bytes) (n : Nat) (hb : bytes * n ≤ 281474976710656 ∧ n ≤ 9223372036854775807) (w : World) :
    ∃ M : Array Value, M.size = n ∧ (Instr.makeSlice t (.int .i64 0) (.int .i64 (n : Int))).run Try.prog w = .ok (.slice (some ⟨w.heap.size, 0, none⟩) 0 n) (w.alloc (.cells M e)) := by
  obtain ⟨ht, hinf, hzs, hsz⟩ := E
  obtain ⟨i, hi, hz, hsize, hby⟩ := info_of hinf
  have hb' : (i.bytes : Int) * (n : Int) ≤ 281474976710656 := by
    have h : ((i.bytes * n : Nat) : Int) ≤ 281474976710656 := by rw [hby]; omega
    rwa [Int.natCast_mul] at h
  have h := run_make (P := Try.prog) w t e i z ht hi hz .i64 .i64 0 (n : Int) (by omega) (by omega) hb' (by omega)
  rw [hsize, Int.toNat_natCast, Nat.mul_one] at h
  exact ⟨_, by rw [← hzs] at *; simpa using size_madeCells z.cells n, h⟩
/-- a row that is handed back, plainly placed -/
def RetCl (w : World) (xs : List (Nat × Nat)) (e : Ending) (w' : World) : Prop := ∃ ys A c, CleanOf xs ys ∧ e = .returned (.slice A ys.length c) ∧ Sps w' A c ys ∧ At (w.heap.size ≤ ·) (.slice A ys.length c) ∧ Below w.heap.size w w'

set_option maxRecDepth 100000 in
set_option maxHeartbeats 4000000 in
theorem span_Clean (xs : List (Nat × Nat)) (hs : ∀ p ∈ xs, p.1 + p.2 ≤ 1099511627776) (hn : xs.length ≤ 1000) (A : Option Addr) (c : Nat) (w : World) (hr : Sps w A c xs) :
    Calls Try.prog 25 #[.slice A xs.length c] w (RetCl w xs) := by
  have HC := Lib.hid (clone_row xs hn A c w hr)
  have HS := Lib.hid hs
  clear hr hs
  go_enter Try.func25, Try.ntmps25
  go_wp2_with fail
  refine HC.out.mono ?_
  rintro e w1 ⟨A1, c1, rfl, ho1, hb1⟩
  have HSR := Lib.hid (sort_row xs HS.out hn A1 c1 w.heap.size w1 ho1 hb1.size)
  have HB1 := Lib.hid hb1
  clear ho1 hb1
  go_wp2_with fail
  refine HSR.out.mono ?_
  rintro e w3 ⟨rfl, ys, hperm, hasc, ho3, hb3⟩
  have hb3' := HB1.out.trans hb3
  have hyl : ys.length = xs.length := hperm.length_eq
  rw [← hyl] at ho3
  have HS3 := Lib.hid (Sps.of_owns ho3)
  have HP := Lib.hid hperm
  have hfit : ∀ p ∈ ys, p.1 + p.2 ≤ 1099511627776 := fun p hp => HS.out p (hperm.mem_iff.1 hp)
  have HB3 := Lib.hid hb3'
  obtain ⟨n, hnn⟩ : ∃ n, n = xs.length := ⟨_, rfl⟩
  rw [← hnn] at hyl hn ⊢
  have HN := Lib.hid hyl
  have HNN := Lib.hid hnn
  clear hnn
  obtain ⟨M, hM, hmk⟩ := make_room spElem n (by omega) w3
  obtain ⟨W5, hW5⟩ : ∃ W, W = (w3.alloc (.cells M 24)).alloc (.cells #[.slice (some ⟨w3.heap.size, 0, none⟩) 0 n] 45) := ⟨_, rfl⟩
  have hbox : Box3 w3.heap.size w3 (w3.heap.size + 1) (some ⟨w3.heap.size, 0, none⟩) n [] W5 := by
    rw [hW5]
    refine ⟨(World.ownsRow_made w3 M n (Nat.le_refl _) (by unfold maxLen; omega) (by rw [hM, Nat.mul_one])).alloc _, ?_, ?_, ?_, ((Below.refl _ _).alloc (Nat.le_refl _) _).alloc (by simp) _, by omega⟩
    · intro e
      have e : some w3.heap.size = some (w3.heap.size + 1) := e
      injection e with e
      omega
    · have := cell_new (w3.alloc (.cells M 24)) #[.slice (some ⟨w3.heap.size, 0, none⟩) 0 n] 45 0
      rw [show (w3.alloc (.cells M 24)).heap.size = w3.heap.size + 1 from by simp] at this
      exact this
    · simp [go_sem]
  have HE := Lib.hid (each_clean ys hfit hasc (by omega) A1 c1 (w3.heap.size + 1) w3 W5 HS3.out _ n hbox)
  rw [HN.out] at HE
  have HW := Lib.hid hW5
  clear hyl hperm hasc ho3 hb3 hb3' hfit hbox hW5
  go_wp2_with fail
  rw [← HW.out]
  refine HE.out.mono ?_
  rintro e w6 ⟨rfl, A6, c6, out, hinv, hbx⟩
  have c6' := hbx.cell
  have hle : out.length ≤ c6 := by
    obtain ⟨_, _, he, h, _⟩ := (Sl.of_owns hbx.own).shape
    injection he with _ _ hc
    omega
  have HI := Lib.hid hinv
  have HX := Lib.hid hbx
  obtain ⟨m, hm⟩ : ∃ m, m = out.length := ⟨_, rfl⟩
  rw [← hm] at c6' hle
  have HM := Lib.hid hm
  clear hinv hbx hm
  go_wp2_with fail
  go_ret
  refine ⟨out, A6, m, ?_, by rw [HM.out]; rfl, ?_, ?_, ?_⟩
  · exact ⟨HI.out.cl, fun t => by rw [HI.out.has t, List.take_of_length_le (by rw [HN.out]; exact Nat.le_refl _), has_perm HP.out t], HI.out.top, by have := HI.out.len; have := HNN.out; omega⟩
  · refine ⟨(Sps.of_owns HX.out.own).1, ?_⟩
    have hsl := Sl.of_owns HX.out.own
    obtain ⟨A', c', he, hc, hl, hh⟩ := hsl
    injection he with e1 _ _
    subst e1
    exact ⟨A6, m, rfl, by have := HM.out; omega, hl, hh⟩
  · have h := (At.of_owns HX.out.own).mono (D' := (w.heap.size ≤ ·)) (fun b hb => Nat.le_trans HB3.out.size hb)
    cases A6 <;> exact h
  · exact HB3.out.trans (HX.out.below.mono HB3.out.size)

set_option maxHeartbeats 1000000 in
theorem size_turn (a b many bo : Nat) (w : World) (hm : many + b ≤ 4611686018427387904) (ha : a + b ≤ 1099511627776) (hc : w.cell? ⟨bo, 0, none⟩ = some (.int .i64 many)) (hf : w.frozen? ⟨bo, 0, none⟩ = false) :
    Calls Try.prog 41 #[.int .i64 a, .int .i64 ((a : Int) + b), .pointer (some ⟨bo, 0, none⟩)] w fun e w' => e = .returned (.bool true) ∧ w' = w.setCell ⟨bo, 0, none⟩ (.int .i64 ((many + b : Nat) : Int)) := by
  have hv : (many : Int) + ((a : Int) + b - a) = ((many + b : Nat) : Int) := by omega
  go_enter Try.func41, Try.ntmps41
  go_wp2_with fail
  go_ret
  exact ⟨rfl, by rw [Int.natCast_add]⟩

set_option maxHeartbeats 2000000 in
theorem each_size (ys : List (Nat × Nat)) (hs : ∀ p ∈ ys, p.1 + p.2 ≤ 1099511627776) (hn : ys.length ≤ 1000) (A0 : Option Addr) (c0 bo : Nat) (w : World) (hr : Sps w A0 c0 ys) (hat : At (· ≠ bo) (.slice A0 ys.length c0)) (hc : w.cell? ⟨bo, 0, none⟩ = some (.int .i64 0)) (hf : w.frozen? ⟨bo, 0, none⟩ = false) :
    Calls Try.prog 38 #[.slice A0 ys.length c0, .func (.func 41) #[] #[.pointer (some ⟨bo, 0, none⟩)]] w fun e w' => e = .returned (.tuple #[]) ∧ w'.cell? ⟨bo, 0, none⟩ = some (.int .i64 (total ys : Nat)) ∧ w.grownBy w' (some bo) := by
  have HR := Lib.hid hr.2.row
  have HAT := Lib.hid hat
  have HS := Lib.hid hs
  have HT := Lib.hid (fun k => show total (ys.take k) ≤ 1000 * 1099511627776 from by
    have h1 := total_top (ys.take k) 1099511627776 (fun q hq => hs q (List.mem_of_mem_take hq))
    exact Nat.le_trans h1 (Nat.mul_le_mul_right _ (by rw [List.length_take]; omega)))
  clear hr hs hat
  go_enter Try.func38, Try.ntmps38
  go_wp2_with fail
  go_loopw [8] (fun si wr => ∃ k : Nat, si = .int .i64 k ∧ k ≤ ys.length ∧ wr.cell? ⟨bo, 0, none⟩ = some (.int .i64 (total (ys.take k) : Nat)) ∧ wr.frozen? ⟨bo, 0, none⟩ = false ∧ w.grownBy wr (some bo)) (fun si _ => ys.length - (intOf si).toNat)
  case atStart => exact ⟨0, rfl, Nat.zero_le _, hc, hf, World.grownBy.refl _ _⟩
  case round =>
    obtain ⟨k, rfl, hk, g0, f0, hbw⟩ := hrel
    have HG := Lib.hid hbw
    clear hbw hc hf
    by_cases hlt : k < ys.length
    · have hrow : Row wr (.slice A0 ys.length c0) (ys.map spV) := HR.out.frame HAT.out (fun b hb hl => HG.out.block b hl (by intro e; simp at e; exact hb e)) HG.out.size
      have hget : (ys.map spV)[k]? = some (spV ys[k]) := by rw [List.getElem?_map, List.getElem?_eq_getElem hlt]; rfl
      obtain ⟨b, off, rfl, hbk, hlen, hcl⟩ := hrow.at k hget
      have hcell : wr.cell? ⟨b, off + k, none⟩ = some (.complex .f64 (fl ys[k].1) (fl ys[k].2)) := hcl k _ hget
      have hsm := HS.out ys[k] (List.getElem_mem hlt)
      have HNX := Lib.hid (total_take ys k hlt)
      have htt := HT.out k
      generalize total (ys.take k) = many at *
      generalize ys[k] = p at *
      clear hrow hcl hget
      go_wp2_with fail
      refine (span_ends p.1 p.2 _ (by omega) (by omega)).mono ?_
      rintro e w1 ⟨rfl, rfl⟩
      go_wp2_with fail
      refine (size_turn p.1 p.2 many bo _ (by omega) hsm g0 f0).mono ?_
      rintro e w1 ⟨rfl, rfl⟩
      have hc1 := World.cell?_setCell_same wr ⟨bo, 0, none⟩ (.int .i64 ((many + p.2 : Nat) : Int)) g0
      have hf1 : (wr.setCell ⟨bo, 0, none⟩ (.int .i64 ((many + p.2 : Nat) : Int))).frozen? ⟨bo, 0, none⟩ = false := by simp [go_sem, f0]
      have hg1 : w.grownBy (wr.setCell ⟨bo, 0, none⟩ (.int .i64 ((many + p.2 : Nat) : Int))) (some bo) := ⟨HG.out.os, HG.out.tape, HG.out.output, by simpa using HG.out.size, fun i hi hne => (heap_setCell_far _ _ _ _ (by intro e; exact hne (by rw [e]))).trans (HG.out.block i hi hne)⟩
      obtain ⟨W, hW⟩ : ∃ W, W = wr.setCell ⟨bo, 0, none⟩ (.int .i64 ((many + p.2 : Nat) : Int)) := ⟨_, rfl⟩
      rw [← hW] at hc1 hf1 hg1 ⊢
      rw [← HNX.out] at hc1
      have HC1 := Lib.hid hc1
      have HF1 := Lib.hid hf1
      have HG1 := Lib.hid hg1
      clear hc1 hf1 hg1 hW g0 f0
      go_wp2_with fail
      go_roundw
      case rel => exact ⟨k + 1, by go_num, by omega, HC1.out, HF1.out, HG1.out⟩
      case measure => simp [intOf]; omega
    · rw [List.take_of_length_le (by omega)] at g0
      have HC := Lib.hid g0
      clear g0
      go_wp2_with fail
      refine bodyPost_end (v := .tuple #[]) (by simp [results, Try.results38]) rfl ⟨rfl, HC.out, HG.out⟩

set_option maxHeartbeats 1000000 in
theorem span_Size (xs : List (Nat × Nat)) (hs : ∀ p ∈ xs, p.1 + p.2 ≤ 1099511627776) (hn : xs.length ≤ 1000) (A : Option Addr) (c : Nat) (w : World) (hr : Sps w A c xs) :
    Calls Try.prog 28 #[.slice A xs.length c] w fun e w' => e = .returned (.int .i64 (cnt (hasD xs) 1099511627776 : Nat)) ∧ Below w.heap.size w w' := by
  obtain ⟨W, hW⟩ : ∃ W, W = w.alloc (.cells #[.int .i64 0] 3) := ⟨_, rfl⟩
  have hb : Below w.heap.size w W := by rw [hW]; exact (Below.refl _ _).alloc (Nat.le_refl _) _
  have hsz : W.heap.size = w.heap.size + 1 := by rw [hW]; simp
  have c1 : W.cell? ⟨w.heap.size, 0, none⟩ = some (.int .i64 0) := by rw [hW]; simp [go_sem]
  have f1 : W.frozen? ⟨w.heap.size, 0, none⟩ = false := by rw [hW]; simp [go_sem]
  have HC := Lib.hid (span_Clean xs hs hn A c W (hr.below hb))
  have HW := Lib.hid hW
  have HB := Lib.hid hb
  have HF := Lib.hid f1
  have HSZ := Lib.hid hsz
  have HC1 := Lib.hid c1
  clear hr hs hW hb hsz f1 c1
  go_enter Try.func28, Try.ntmps28
  go_wp2_with fail
  rw [← HW.out]
  refine HC.out.mono ?_
  rintro e w1 ⟨ys, A1, c1', hcl, rfl, hsp, hat, hb1⟩
  have c1 := cell_keep hb1 HC1.out
  have f1 : w1.frozen? ⟨w.heap.size, 0, none⟩ = false := by rw [(bcell hb1).2 _ _ (by have := HSZ.out; omega)]; exact HF.out
  have HE := Lib.hid (each_size ys hcl.2.2.1 (by have := hcl.2.2.2; omega) A1 c1' w.heap.size w1 hsp (hat.mono fun b hb => by have := HSZ.out; omega) c1 f1)
  have HB1 := Lib.hid (below_trans HB.out hb1 HB.out.size)
  have HT := Lib.hid hcl.total
  clear hcl hsp hat hb1 c1 f1
  go_wp2_with fail
  refine HE.out.mono ?_
  rintro e w2 ⟨rfl, c2, hg⟩
  have HB2 := Lib.hid (HB1.out.grown hg HB1.out.size (fun g hg => by injection hg with hg; omega))
  clear hg
  go_wp2_with fail
  go_ret
  exact ⟨by rw [← HT.out]; rfl, HB2.out⟩
end Go.Proofs.Ytcckbiaigcideaa
