/- name.Enter, copyholdref06.Enter: they answer as the document says; old memory is as it was. -/
import Derived.Test.YtjeejnjomgcplaaNameRefs
import Derived.Test.YtjeejnjomgcplaaSlice
import Derived.Deep.RegionHeld3
set_option linter.unusedVariables false
namespace Go.Proofs.Ytjeejnjomgcplaa
open Go.RowKit Copyhold Copyhold.Name

/-- what is answered: a row, and why not -/
def RetEnt (w : World) (r : List Ent × Int) (e : Ending) (w' : World) : Prop := ∃ v, e = .returned (.tuple #[v, .int .i64 r.2]) ∧ Ents w' v r.1 ∧ Below w.heap.size w w'

theorem ents_slice_lo {w : World} {A : Option Addr} {c : Nat} {l : List Ent} (h : Ents w (.slice A l.length c) l) (i : Nat) (hi : i ≤ l.length) : Ents w (.slice A i c) (l.take i) := h.take i hi

/-- a row of the call's own, with entries put behind -/
theorem ents_app {w : World} {base : Nat} {v : Value} {n : Nat} {xs : List Value} (hown : w.ownsRow base 55 2 v n xs) (sv : Value) (l : List Ent) (hs : Ents w sv l) (hn : n + l.length ≤ 1000000) (hb : base ≤ w.heap.size) :
    ∃ v' w', (Builtin.append_ #[22, 22] 22 #[v, sv]).run Try.prog w = .ok v' w' ∧ w'.ownsRow base 55 2 v' (n + l.length) (xs ++ l.flatMap entC) ∧ w.grownBy w' v.ownBlock := by
  obtain ⟨v', w', h1, h2, h3, _⟩ := append_sl entElem w base 22 v n xs hown sv l.length (l.flatMap entC) hs (entC_one l) (by unfold maxLen; omega) (by omega) hb
  exact ⟨v', w', h1, h2, h3⟩

theorem ents_of_owns {w : World} {base : Nat} {v : Value} {l : List Ent} {n : Nat} (h : w.ownsRow base 55 2 v n (l.flatMap entC)) : Ents w v l := by
  have := Sl.of_owns h
  have hl := this.shape
  obtain ⟨A, c, _, _, hx⟩ := hl
  rw [entC_len] at hx
  have : n = l.length := by omega
  subst this
  exact Sl.of_owns h

theorem enter_cases' (l : List Ent) (s : List UInt8) (n : Int) : (okN s = false ∧ enterF l s n = (l, 10)) ∨ (okN s = true ∧ n < 1 ∧ enterF l s n = (l, 1)) ∨ (okN s = true ∧ 1 ≤ n ∧ isAt l s = true ∧ enterF l s n = (l, 7)) ∨
    (okN s = true ∧ 1 ≤ n ∧ isAt l s = false ∧ 256 ≤ l.length ∧ enterF l s n = (l, 12)) ∨ (okN s = true ∧ 1 ≤ n ∧ isAt l s = false ∧ l.length < 256 ∧ enterF l s n = (insE l (s, n), 0)) := by
  by_cases h1 : okN s = false
  · exact .inl ⟨h1, by simp [enterF, h1]⟩
  · by_cases h2 : n < 1
    · exact .inr (.inl ⟨by simpa using h1, h2, by simp [enterF, h1, h2]⟩)
    · by_cases h3 : isAt l s = true
      · exact .inr (.inr (.inl ⟨by simpa using h1, by omega, h3, by simp [enterF, h1, h2, h3]⟩))
      · by_cases h4 : 256 ≤ l.length
        · exact .inr (.inr (.inr (.inl ⟨by simpa using h1, by omega, by simpa using h3, h4, by simp [enterF, h1, h2, h3, h4]⟩)))
        · exact .inr (.inr (.inr (.inr ⟨by simpa using h1, by omega, by simpa using h3, by omega, enter_ok (by simpa using h1) (by omega) (by simpa using h3) (by omega)⟩)))

set_option maxHeartbeats 4000000 in
theorem name_Enter (l : List Ent) (s : List UInt8) (n : Int) (A : Option Addr) (c : Nat) (w : World) (hl : Ents w (.slice A l.length c) l) (hlen : l.length ≤ 256) (hsrt : Srt l) (hs : s.length ≤ 140737488351232) (hn1 : -9223372036854775808 ≤ n) (hn2 : n ≤ 9223372036854775807) :
    Calls Try.prog 22 #[.slice A l.length c, .string ⟨s.toArray⟩, .int .i64 n] w (RetEnt w (enterF l s n)) := by
  have HC := Lib.hid (name_place l s A c w hl (by omega) hsrt)
  have HK := Lib.hid (fun W : World => name_Check s W hs)
  have HL := Lib.hid hl
  rcases enter_cases' l s n with ⟨h1, hr⟩ | ⟨h1, h2, hr⟩ | ⟨h1, h2, h3, hr⟩ | ⟨h1, h2, h3, h4, hr⟩ | ⟨h1, h2, h3, h4, hr⟩
  · have HRR := Lib.hid hr
    have HD : Hid (checkD s = 10) := Lib.hid (by rw [checkD, h1]; rfl)
    clear hl h1 hr hsrt
    generalize pos l s = k at *
    generalize isAt l s = q at *
    go_enter Try.func22, Try.ntmps22
    go_wp2_with fail
    refine HC.out.mono ?_
    rintro e w1 ⟨rfl, hb1⟩
    have HB1 := Lib.hid hb1
    clear hb1
    go_wp2_with fail
    refine (HK.out _).mono ?_
    rintro e w1' ⟨rfl, rfl⟩
    rw [HD.out]
    go_wp2_with fail
    go_ret2
    exact ⟨_, by rw [HRR.out]; rfl, by rw [HRR.out]; exact HL.out.below HB1.out, HB1.out⟩
  · have HRR := Lib.hid hr
    have HD : Hid (checkD s = 0) := Lib.hid (by rw [checkD, h1]; rfl)
    have hd1 : decide (n < 1) = true := by simpa using h2
    clear hl h1 hr hsrt
    generalize pos l s = k at *
    generalize isAt l s = q at *
    go_enter Try.func22, Try.ntmps22
    go_wp2_with fail
    refine HC.out.mono ?_
    rintro e w1 ⟨rfl, hb1⟩
    have HB1 := Lib.hid hb1
    clear hb1
    go_wp2_with fail
    refine (HK.out _).mono ?_
    rintro e w1' ⟨rfl, rfl⟩
    rw [HD.out]
    go_wp2_with fail
    go_ret2
    exact ⟨_, by rw [HRR.out]; rfl, by rw [HRR.out]; exact HL.out.below HB1.out, HB1.out⟩
  · have HRR := Lib.hid hr
    have HD : Hid (checkD s = 0) := Lib.hid (by rw [checkD, h1]; rfl)
    have hd1 : decide (n < 1) = false := by simpa using h2
    rw [h3] at HC
    clear hl h1 h3 hr hsrt
    generalize pos l s = k at *
    go_enter Try.func22, Try.ntmps22
    go_wp2_with fail
    refine HC.out.mono ?_
    rintro e w1 ⟨rfl, hb1⟩
    have HB1 := Lib.hid hb1
    clear hb1
    go_wp2_with fail
    refine (HK.out _).mono ?_
    rintro e w1' ⟨rfl, rfl⟩
    rw [HD.out]
    go_wp2_with fail
    go_ret2
    exact ⟨_, by rw [HRR.out]; rfl, by rw [HRR.out]; exact HL.out.below HB1.out, HB1.out⟩
  · have HRR := Lib.hid hr
    have HD : Hid (checkD s = 0) := Lib.hid (by rw [checkD, h1]; rfl)
    have hd1 : decide (n < 1) = false := by simpa using h2
    have hd2 : decide (256 ≤ (l.length : Int)) = true := by simp; omega
    rw [h3] at HC
    clear hl h1 h3 hr hsrt
    generalize pos l s = k at *
    go_enter Try.func22, Try.ntmps22
    go_wp2_with fail
    refine HC.out.mono ?_
    rintro e w1 ⟨rfl, hb1⟩
    have HB1 := Lib.hid hb1
    clear hb1
    go_wp2_with fail
    refine (HK.out _).mono ?_
    rintro e w1' ⟨rfl, rfl⟩
    rw [HD.out]
    go_wp2_with fail
    go_ret2
    exact ⟨_, by rw [HRR.out]; rfl, by rw [HRR.out]; exact HL.out.below HB1.out, HB1.out⟩
  · have hp := pos_le l s
    have hins := take_ins hsrt s n
    have HINS := Lib.hid hins
    have HRR := Lib.hid hr
    have HD : Hid (checkD s = 0) := Lib.hid (by rw [checkD, h1]; rfl)
    rw [h3] at HC
    have hd1 : decide (n < 1) = false := by simpa using h2
    have hd2 : decide (256 ≤ (l.length : Int)) = false := by simp; omega
    have hpre := fun W : World => run_pre entElem A l.length c (pos l s) (by obtain ⟨_, _, he, hc⟩ := hl.shape; simp only [Value.slice.injEq] at he; omega) W
    have hpost := fun W : World => run_post entElem A l.length c (pos l s) hp W
    have HPRE : Hid (∀ W, Below w.heap.size w W → Ents W (.slice A (pos l s) c) (l.take (pos l s))) := Lib.hid fun W hW => (hl.below hW).take _ hp
    have HPOST : Hid (∀ W, Below w.heap.size w W → Ents W (.slice (cutA A c (pos l s) 2) (l.length - pos l s) (c - pos l s)) (l.drop (pos l s))) := Lib.hid fun W hW => by
      have := Sl.post (hl.below hW) (pos l s) hp
      unfold Ents
      rw [flatMap_drop, List.length_drop]
      exact this
    clear hl h1 h2 h3 hins hr hsrt
    generalize pos l s = k at *
    go_enter Try.func22, Try.ntmps22
    go_wp2_with fail
    refine HC.out.mono ?_
    rintro e w1 ⟨rfl, hb1⟩
    have HB1 := Lib.hid hb1
    obtain ⟨vm, w2, hmk, hown, hgr⟩ := make_room entElem w1 w.heap.size (l.length + 1) (by omega) (by unfold maxLen; omega) hb1.size
    rw [show ((l.length + 1 : Nat) : Int) = (l.length : Int) + 1 from by omega] at hmk
    have hb2 := hb1.grown hgr hb1.size (fun g hg => by cases hg)
    obtain ⟨v3, w3, hr3, ho3, hg3⟩ := ents_app hown _ _ (HPRE.out w2 hb2) (by simp; omega) hb2.size
    have hb3 := hb2.grown hg3 hb2.size (fun g hg => (own_block_ge hown g hg).1)
    have hs4 : Ents (w3.alloc (.cells #[.string ⟨s.toArray⟩, .int .i64 n] 55)) (.slice (some ⟨w3.heap.size, 0, none⟩) 1 1) [(s, n)] := slN w3 #[.string ⟨s.toArray⟩, .int .i64 n] _
    obtain ⟨v4, w4, hr4, ho4, hg4⟩ := ents_app (ho3.alloc _) _ _ hs4 (by simp; omega) (by have := hb3.size; simp; omega)
    have hb4 := (hb3.alloc hb3.size (.cells #[.string ⟨s.toArray⟩, .int .i64 n] 55)).grown hg4 (by have := hb3.size; simp; omega) (fun g hg => (own_block_ge ho3 g hg).1)
    obtain ⟨v5, w5, hr5, ho5, hg5⟩ := ents_app ho4 _ _ (HPOST.out w4 hb4) (by simp; omega) hb4.size
    have hb5 := hb4.grown hg5 hb4.size (fun g hg => (own_block_ge ho4 g hg).1)
    have hfin : Ents w5 v5 (insE l (s, n)) := by
      rw [← HINS.out]
      refine ents_of_owns (n := _) (base := w.heap.size) (by
        rw [List.flatMap_append, List.flatMap_cons, ← List.append_assoc]
        simpa using ho5)
    have HF := Lib.hid (And.intro hfin hb5)
    clear hown hgr hb1 hb2 ho3 hg3 hb3 hs4 ho4 hg4 hb4 ho5 hg5 hb5 hfin
    go_wp2_with fail
    refine (HK.out _).mono ?_
    rintro e w1' ⟨rfl, rfl⟩
    rw [HD.out]
    go_wp2_with (at_builtin; first | refine wpList_append_run rfl _ _ _ rfl _ _ _ _ rfl rfl hr3 ?_ | refine wpList_append_run rfl _ _ _ rfl _ _ _ _ rfl rfl hr4 ?_ | refine wpList_append_run rfl _ _ _ rfl _ _ _ _ rfl rfl hr5 ?_)
    go_ret2
    exact ⟨v5, by rw [HRR.out]; rfl, by rw [HRR.out]; exact HF.out.1, HF.out.2⟩

/-- what is answered: a row, a number, and why not -/
def RetLv (w : World) (r : List Ent × Int × Int) (e : Ending) (w' : World) : Prop := ∃ v, e = .returned (.tuple #[v, .int .i64 r.2.1, .int .i64 r.2.2]) ∧ Ents w' v r.1 ∧ Below w.heap.size w w'

set_option maxHeartbeats 4000000 in
theorem name_Leave (l : List Ent) (s : List UInt8) (A : Option Addr) (c : Nat) (w : World) (hl : Ents w (.slice A l.length c) l) (hlen : l.length ≤ 256) (hsrt : Srt l) :
    Calls Try.prog 24 #[.slice A l.length c, .string ⟨s.toArray⟩] w (RetLv w (leaveF l s)) := by
  have HC := Lib.hid (name_place l s A c w hl (by omega) hsrt)
  have HL := Lib.hid hl
  cases h3 : isAt l s with
  | false =>
    have HRR : Hid (leaveF l s = (l, 0, 6)) := Lib.hid (by simp [leaveF, h3])
    rw [h3] at HC
    clear hl h3 hsrt
    generalize pos l s = k at *
    go_enter Try.func24, Try.ntmps24
    go_wp2_with fail
    refine HC.out.mono ?_
    rintro e w1 ⟨rfl, hb1⟩
    have HB1 := Lib.hid hb1
    clear hb1
    go_wp2_with fail
    go_ret3
    exact ⟨_, by rw [HRR.out]; rfl, by rw [HRR.out]; exact HL.out.below HB1.out, HB1.out⟩
  | true =>
    obtain ⟨x, hx1, hx2, hx3⟩ := get_pos hsrt h3
    obtain ⟨hlt, hxe⟩ := List.getElem?_eq_some_iff.1 hx1
    have HRR : Hid (leaveF l s = (delE l s, x.2, 0)) := Lib.hid (by simp [leaveF, h3, hx3])
    have HDEL := Lib.hid (take_del hsrt h3)
    rw [h3] at HC
    obtain ⟨b, off, rfl, hbk, hc, hc1, hc2⟩ := hl.at (pos l s) hlt
    rw [hxe] at hc2
    have HC2 := Lib.hid hc2
    have hpre := fun W : World => run_pre entElem (some ⟨b, off, none⟩) l.length c (pos l s) (by omega) W
    have hpost := fun W : World => run_post entElem (some ⟨b, off, none⟩) l.length c (pos l s + 1) (by omega) W
    rw [show ((pos l s + 1 : Nat) : Int) = (pos l s : Int) + 1 from by omega] at hpost
    have HPRE : Hid (∀ W, Below w.heap.size w W → Ents W (.slice (some ⟨b, off, none⟩) (pos l s) c) (l.take (pos l s))) := Lib.hid fun W hW => (hl.below hW).take _ (by omega)
    have HPOST : Hid (∀ W, Below w.heap.size w W → Ents W (.slice (cutA (some ⟨b, off, none⟩) c (pos l s + 1) 2) (l.length - (pos l s + 1)) (c - (pos l s + 1))) (l.drop (pos l s + 1))) := Lib.hid fun W hW => by
      have := Sl.post (hl.below hW) (pos l s + 1) (by omega)
      unfold Ents
      rw [flatMap_drop, List.length_drop]
      exact this
    clear hl h3 hx1 hx2 hx3 hxe hc1 hc2 hsrt
    have hi1 : (pos l s : Int) < (l.length : Int) := by omega
    have hi0 : (0 : Int) ≤ (pos l s : Int) := by omega
    generalize pos l s = k at *
    have hwr : IntKind.i64.wrap ((k : Int) + 1) = (k : Int) + 1 := IntWalk.i64_in _ (by omega)
    have hp0 : (0 : Int) ≤ (k : Int) + 1 := by omega
    have htn : ((k : Int) + 1).toNat = k + 1 := by omega
    have HWR := Lib.hid (And.intro hwr htn)
    clear hwr htn
    go_enter Try.func24, Try.ntmps24
    go_wp2_with fail
    refine HC.out.mono ?_
    rintro e w1 ⟨rfl, hb1⟩
    have HB1 := Lib.hid hb1
    obtain ⟨vm, w2, hmk, hown, hgr⟩ := make_room entElem w1 w.heap.size l.length (by omega) (by unfold maxLen; omega) hb1.size
    have hb2 := hb1.grown hgr hb1.size (fun g hg => by cases hg)
    obtain ⟨v3, w3, hr3, ho3, hg3⟩ := ents_app hown _ _ (HPRE.out w2 hb2) (by simp; omega) hb2.size
    have hb3 := hb2.grown hg3 hb2.size (fun g hg => (own_block_ge hown g hg).1)
    obtain ⟨v4, w4, hr4, ho4, hg4⟩ := ents_app (w := w3.drew) (v := v3) (show w3.drew.ownsRow _ _ _ _ _ _ from ho3) _ _ (HPOST.out w3.drew (below_dn hb3 1)) (by simp; omega) hb3.size
    have hb4 := (below_dn hb3 1).grown hg4 hb3.size (fun g hg => (own_block_ge ho3 g hg).1)
    have hfin : Ents w4 v4 (delE l s) := by
      rw [← HDEL.out]
      refine ents_of_owns (n := _) (base := w.heap.size) (by
        rw [List.flatMap_append]
        simpa using ho4)
    have HF := Lib.hid (And.intro hfin hb4)
    have HC3 := Lib.hid (cell_keep hb3 HC2.out)
    have HC4 := Lib.hid (cell_keep hb4 HC2.out)
    clear hown hgr hb1 hb2 ho3 hg3 hb3 ho4 hg4 hb4 hfin
    go_wp2_with (at_builtin; refine wpList_append_run rfl _ _ _ rfl _ _ _ _ rfl rfl hr3 ?_)
    have hc3 := HC3.out
    have hc4 := HC4.out
    obtain ⟨hwr, htn⟩ := HWR.out
    go_region_held3 (fun w' => w'.cell? ⟨b, off + k * 2 + 1, none⟩ = some (.int .i64 x.2)) (first | go_keep | exact hc4) (refine step_append_run rfl _ _ _ rfl _ _ _ _ rfl rfl hr4 ?_)
    all_goals
      go_wp2_with fail
      go_ret3
      exact ⟨_, by rw [HRR.out]; rfl, by rw [HRR.out]; exact HF.out.1, HF.out.2⟩
end Go.Proofs.Ytjeejnjomgcplaa
