/- name.Split (a range over a function): it answers as the document says; old memory is as it was. -/
import Derived.Test.YtjeejnjomgcplaaNameSplit
set_option linter.unusedVariables false
namespace Go.Proofs.Ytjeejnjomgcplaa
open Go.RowKit Go.Shelf Copyhold Copyhold.Name
attribute [local go_sem] Oper.semAt_some

/-- what is answered: texts, and why not -/
def RetSp (w : World) (r : List (List UInt8) × Int) (e : Ending) (w' : World) : Prop := ∃ v, e = .returned (.tuple #[v, .int .i64 r.2]) ∧ Row w' v (r.1.map strV) ∧ Below w.heap.size w w'

set_option maxRecDepth 100000 in
set_option maxHeartbeats 4000000 in
theorem Split_in (n : Nat) (hn : 3 ≤ n) (p : List UInt8) (hp : p.length ≤ 1000000) (w : World) :
    CallsIn Fence.wide n Try.prog 12 #[.string ⟨p.toArray⟩] w (RetSp w (splitD p)) := by
  have h1 : 1 ≤ n := by omega
  have h13 : 1 ≤ n - 1 - 1 := by omega
  obtain ⟨i0, hi, hz0, hz1, hz2⟩ := info_parts infoText
  have HPRE := Lib.hid (strings_HasPrefix p ((w.alloc (.cells #[.slice none 0 0] 25)).alloc (.cells #[.int .i64 0] 26)) (by omega))
  refine callsIn_of_wp_marks Try.func12 rfl trivial ?_ rfl
  simp only [Try.ntmps12, List.size_toArray, List.length_cons, List.length_nil, Nat.reduceAdd, Nat.reduceSub, Array.replicate_succ, Array.replicate_zero, List.push_toArray, List.append_toArray, List.nil_append, List.cons_append]
  cases hsl : slashed p
  · have hsd : splitD p = ([], 10) := by
      have : p.head? ≠ some 47 := by
        intro h
        rw [slashed, h] at hsl
        cases hsl
      rw [splitD, if_neg this]
    have HSD := Lib.hid hsd
    rw [hsl] at HPRE
    clear hsd hsl
    gi_wp2_with (refine ⟨trivial, ?_⟩; gi_at_call 28; refine (callsIn_wide.2 HPRE.out).mono ?_; rintro e w1 ⟨rfl, rfl⟩)
    refine ⟨.tuple #[.slice none 0 0, .int .i64 10], ?_, ⟨_, by rw [HSD.out], by rw [HSD.out]; exact .inl ⟨none, 0, rfl, rfl⟩, ((Below.refl _ w).alloc (Nat.le_refl _) _).alloc (by simp) _⟩⟩
    simp [results, Try.f12, go_sem]
  · have hsd : splitD p = if (namesP p).all okN then (namesP p, 0) else ([], 10) := by
      have : p.head? = some 47 := by simpa [slashed] using hsl
      rw [splitD, if_pos this]
    have HSD := Lib.hid hsd
    rw [hsl] at HPRE
    clear hsd hsl
    gi_wp2_with (first | (refine ⟨trivial, ?_⟩; gi_at_call 28; refine (callsIn_wide.2 HPRE.out).mono ?_; rintro e w1 ⟨rfl, rfl⟩) | (refine ⟨trivial, ?_⟩; gi_at_call 29; refine (parts_in (n - 1) p _).mono ?_; rintro e w' ⟨rfl, rfl⟩))
    have bR0 := Boxed.new w 25 (.slice none 0 0)
    have bR1 := Boxed.new (w.alloc (.cells #[.slice none 0 0] 25)) 26 (.int .i64 0)
    have bO := Boxed.new ((w.alloc (.cells #[.slice none 0 0] 25)).alloc (.cells #[.int .i64 0] 26)) 25 (.slice none 0 0)
    have bP := Boxed.new (((w.alloc (.cells #[.slice none 0 0] 25)).alloc (.cells #[.int .i64 0] 26)).alloc (.cells #[.slice none 0 0] 25)) 9 (.string ⟨p.toArray⟩)
    simp only [World.size_alloc] at bR1 bO bP
    have hB0 : Below w.heap.size w ((((w.alloc (.cells #[.slice none 0 0] 25)).alloc (.cells #[.int .i64 0] 26)).alloc (.cells #[.slice none 0 0] 25)).alloc (.cells #[.string ⟨p.toArray⟩] 9)) :=
      ((((Below.refl _ w).alloc (Nat.le_refl _) _).alloc (by simp) _).alloc (by simp; omega) _).alloc (by simp; omega) _
    refine wpIn_rangeFunc_ownG rfl h1 (gf := 34) (lb := #[.pointer (some ⟨w.heap.size + 1 + 1 + 1, 0, none⟩)]) rfl trivial (enters_of Try.func34 (by kernel_rfl) rfl)
      (parts_stops (n - 1) (by omega) (w.heap.size + 1 + 1 + 1) w.heap.size p (by omega) _ (by simp) bP.cell) belowK_t (belowK_b (by simp; omega)) (Below.refl _ _) (fun _ => rfl)
      (fun (pre : List Txt) W => ((∃ v, Boxed W (w.heap.size + 1 + 1) 25 v ∧ W.ownsRow w.heap.size 9 1 v pre.length (pre.map fun x => strV x.1) ∧ (∀ x ∈ pre, okN x.1 = true)) ∧ Boxed W w.heap.size 25 (.slice none 0 0) ∧ Boxed W (w.heap.size + 1) 26 (.int .i64 0)) ∧ Below w.heap.size w W)
      (fun c (pre : List Txt) W => (c = .ret ∧ (∃ x ∈ pre, okN x.1 = false) ∧ Boxed W w.heap.size 25 (.slice none 0 0) ∧ Boxed W (w.heap.size + 1) 26 (.int .i64 10)) ∧ Below w.heap.size w W)
      (OwnFrom.and (Own.from (fun s X Y row hs hg hr => ⟨holdsRow_own w.heap.size (w.heap.size + 1 + 1) 25 9 1 (fun (pre : List Txt) => pre.length) (fun pre => pre.map fun x => strV x.1) (fun pre v => ∀ x ∈ pre, okN x.1 = true) s X Y row hs.1 hg hr, boxed_own w.heap.size 25 (fun (_ : List Txt) => .slice none 0 0) s X Y row hs.2.1 hg hr, boxed_own (w.heap.size + 1) 26 (fun (_ : List Txt) => .int .i64 0) s X Y row hs.2.2 hg hr⟩) _) (ownFrom_below (Nat.le_refl _) (by simp; omega)))
      (fun c => OwnFrom.and (Own.from (fun s X Y row hs hg hr => ⟨hs.1, hs.2.1, boxed_own w.heap.size 25 (fun (_ : List Txt) => .slice none 0 0) s X Y row hs.2.2.1 hg hr, boxed_own (w.heap.size + 1) 26 (fun (_ : List Txt) => .int .i64 10) s X Y row hs.2.2.2 hg hr⟩) _) (ownFrom_below (Nat.le_refl _) (by simp; omega)))
      ⟨⟨⟨_, bO.alloc _, World.ownsRow_nil _ _ _ _, by simp⟩, ((bR0.alloc _).alloc _).alloc _, (bR1.alloc _).alloc _⟩, hB0⟩
      (fun (x : Txt) => { tmps := #[.string ⟨p.toArray⟩, undef, .pointer (some ⟨w.heap.size, 0, none⟩), .pointer (some ⟨w.heap.size + 1, 0, none⟩), .pointer (some ⟨w.heap.size + 1 + 1, 0, none⟩), .string ⟨x.1.toArray⟩, undef, .string ⟨p.toArray⟩, .bool true, .bool false, .string ⟨p.toArray⟩, .func (.func 34) #[] #[.pointer (some ⟨w.heap.size + 1 + 1 + 1, 0, none⟩)], .string ⟨x.1.toArray⟩, undef, undef, undef, undef, undef, undef, undef, undef, undef, undef], defers := [] }) ?assign ?body ?done ?stop
    case assign =>
      intro l x W K hK
      gi_wp2
      exact hK
    case body =>
      rintro l pre x W ⟨⟨⟨v, hv, hrow, hall⟩, hr0, hr1⟩, hB⟩ hlt
      have HC := Lib.hid (name_Check x.1 W x.2)
      have hc := hv.cell
      have c0 := hr0.cell
      have f0 := hr0.frozen
      have c1 := hr1.cell
      have f1 := hr1.frozen
      cases hx : okN x.1
      · rw [checkD, hx] at HC
        gi_wp2_with (refine ⟨trivial, ?_⟩; gi_at_call 16; refine (CallsIn.inRound l (callsIn_wide.2 HC.out)).mono ?_; rintro e w1 ⟨rfl, rfl⟩)
        have hk : KeepsOthers W ((W.setCell ⟨w.heap.size, 0, none⟩ (.slice none 0 0)).setCell ⟨w.heap.size + 1, 0, none⟩ (.int .i64 10)) := (KeepsOthers.setCell _ _ _).trans (KeepsOthers.setCell _ _ _)
        have hbb : Below w.heap.size w ((W.setCell ⟨w.heap.size, 0, none⟩ (.slice none 0 0)).setCell ⟨w.heap.size + 1, 0, none⟩ (.int .i64 10)) := (hB.setCell (p := ⟨w.heap.size, 0, none⟩) (Nat.le_refl _) _).setCell (p := ⟨w.heap.size + 1, 0, none⟩) (by simp) _
        exact ⟨hk.from _, ⟨rfl, ⟨x, by simp, hx⟩, (hr0.set _).other (by omega) _, (hr1.other (by omega) _).set _⟩, hbb⟩
      · rw [checkD, hx] at HC
        gi_wp2_with (first | (refine ⟨trivial, ?_⟩; gi_at_call 16; refine (CallsIn.inRound l (callsIn_wide.2 HC.out)).mono ?_; rintro e w1 ⟨rfl, rfl⟩) | (gi_at_builtin; refine wpListIn_append_own _ rfl _ _ 25 rfl w.heap.size 9 i0 (.string ⟨#[]⟩) 1 16 Try.underlying25 hi hz0 hz1 hz2 rfl (by decide) _ _ _ rfl (hrow.alloc _) ⟨W.heap.size, 0, none⟩ 1 1 [.string ⟨x.1.toArray⟩] rfl rfl (cell_one_new _ _ _) (by simp [Value.oneCell']) (by unfold maxLen; omega) (by omega) (by have := hB.size; simp; omega) ?_; intro v' w1' hown' hgrow _; obtain ⟨g', cap', rfl⟩ := ownsRow_succ hown'; have hr0' := (hr0.alloc (.cells #[.string ⟨x.1.toArray⟩] 9)).kept hgrow (hr0.not_row (by decide) hrow); have hr1' := (hr1.alloc (.cells #[.string ⟨x.1.toArray⟩] 9)).kept hgrow (hr1.not_row (by decide) hrow); obtain ⟨hv1', hv2, hr2, hk2, hb2⟩ := hv.appended (by decide) hrow hB.size (by omega) hown' hgrow; have hc1 := hv1'.cell; have hf1 := hv1'.frozen))
        exact ⟨hk2.from _, hb2, ⟨⟨_, hv2, by simpa [strV] using hr2, fun y hy => (List.mem_append.1 hy).elim (hall y) (fun h => by simp at h; rw [h]; exact hx)⟩, hr0'.other (by omega) _, hr1'.other (by omega) _⟩, hB.trans hb2⟩
    case done =>
      rintro D ys W hD hys ⟨⟨⟨v, hv, hrow, hall⟩, hr0, hr1⟩, hB⟩ hK
      have hc := hv.cell
      have c0 := hr0.cell
      have f0 := hr0.frozen
      have c1 := hr1.cell
      have f1 := hr1.frozen
      have hrw := Row.of_owns hrow
      obtain ⟨A, c, rfl⟩ := hrw.shape
      rw [List.length_map] at hrw hc hv hrow
      obtain ⟨W2, hW2⟩ : ∃ W2, W2 = (W.setCell ⟨w.heap.size, 0, none⟩ (.slice A ys.length c)).setCell ⟨w.heap.size + 1, 0, none⟩ (.int .i64 0) := ⟨_, rfl⟩
      have hK' : W2.heap[D]? = some (.deferred (some [])) := by rw [hW2]; exact ((KeepsOthers.setCell W ⟨w.heap.size, 0, none⟩ (.slice A ys.length c)).trans (KeepsOthers.setCell _ _ _)).same D _ hK rfl
      have hb2 : Below w.heap.size w W2 := by rw [hW2]; exact (hB.setCell (p := ⟨w.heap.size, 0, none⟩) (Nat.le_refl _) _).setCell (p := ⟨w.heap.size + 1, 0, none⟩) (by simp) _
      have b0 : Boxed W2 w.heap.size 25 (.slice A ys.length c) := by rw [hW2]; exact (hr0.set _).other (by omega) _
      have b1 : Boxed W2 (w.heap.size + 1) 26 (.int .i64 0) := by rw [hW2]; exact (hr1.other (by omega) _).set _
      have hro2 : W2.ownsRow w.heap.size 9 1 (.slice A ys.length c) ys.length (ys.map fun x => strV x.1) := by
        rw [hW2]
        have hn0 : some w.heap.size ≠ (Value.slice A ys.length c).ownBlock := hr0.not_row (by decide) hrow
        have hn1 : some (w.heap.size + 1) ≠ (Value.slice A ys.length c).ownBlock := hr1.not_row (by decide) hrow
        refine (hrow.kept (grownBy_setCell' W w.heap.size _) (.inr hn0.symm)).kept (grownBy_setCell' _ (w.heap.size + 1) _) (.inr hn1.symm)
      have hro3 := ownsRow_putObj hro2 (Obj.deferred none) hK' rfl
      have hc0 := cell_kept b0.cell (grownBy_putObj' _ D (.deferred none)) (fun r e => by cases e; exact ⟨_, hK', rfl⟩)
      have hc1 := cell_kept b1.cell (grownBy_putObj' _ D (.deferred none)) (fun r e => by cases e; exact ⟨_, hK', rfl⟩)
      have hgood : splitD p = (namesP p, 0) := by
        rw [HSD.out, if_pos]
        rw [← hys, List.all_eq_true]
        intro y hy
        obtain ⟨x, hx, rfl⟩ := List.mem_map.1 hy
        exact hall x hx
      have hfin : RetSp w (splitD p) (.returned (.tuple #[.slice A ys.length c, .int .i64 0])) (W2.putObj D (.deferred none)) := by
        rw [hgood]
        refine ⟨_, rfl, ?_, hb2.trans (belowK_b (w := w) (Nat.le_refl _) W2 D _ _ (by simp at hD; omega) hK' rfl rfl)⟩
        have := Row.of_owns hro3
        rw [← hys, List.map_map]
        exact this
      have HFIN := Lib.hid hfin
      have HK' := Lib.hid hK'
      have HC01 := Lib.hid (And.intro hc0 hc1)
      clear hfin hK' hc0 hc1 hro3 hro2 b0 b1 hb2 hgood hrw hrow hall hv hr0 hr1 hB
      gi_wp2
      rw [← hW2]
      refine ⟨by simp, .inl ⟨_, _, rfl, run_takeDeferred HK'.out, ?_⟩⟩
      refine ⟨.tuple #[.slice A ys.length c, .int .i64 0], ?_, HFIN.out⟩
      obtain ⟨hc0, hc1⟩ := HC01.out
      simp [results, Try.f12, go_sem, hc0, hc1]
    case stop =>
      rintro D c pre W hD hpre ⟨⟨rfl, ⟨x, hxm, hx⟩, hr0, hr1⟩, hB⟩ hK
      gi_wp2
      refine ⟨by simp, .inl ⟨_, _, rfl, run_takeDeferred hK, ?_⟩⟩
      have hc0 := cell_kept hr0.cell (grownBy_putObj' _ D (.deferred none)) (fun r e => by cases e; exact ⟨_, hK, rfl⟩)
      have hc1 := cell_kept hr1.cell (grownBy_putObj' _ D (.deferred none)) (fun r e => by cases e; exact ⟨_, hK, rfl⟩)
      have hbad : splitD p = ([], 10) := by
        rw [HSD.out, if_neg]
        rw [List.all_eq_true]
        intro h
        have := h x.1 (hpre.subset (List.mem_map.2 ⟨x, hxm, rfl⟩))
        rw [hx] at this
        cases this
      refine ⟨.tuple #[.slice none 0 0, .int .i64 10], ?_, ⟨_, by rw [hbad], by rw [hbad]; exact .inl ⟨none, 0, rfl, rfl⟩, hB.trans (belowK_b (w := w) (Nat.le_refl _) W D _ _ (by simp at hD; omega) hK rfl rfl)⟩⟩
      simp [results, Try.f12, go_sem, hc0, hc1]

theorem name_Split (p : List UInt8) (hp : p.length ≤ 1000000) (w : World) : Calls Try.prog 12 #[.string ⟨p.toArray⟩] w (RetSp w (splitD p)) :=
  callsIn_wide.1 (Split_in 3 (Nat.le_refl _) p hp w)
end Go.Proofs.Ytjeejnjomgcplaa
