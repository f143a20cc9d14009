/- copyholdref07.Right, Size, Same, and the document's example: they answer as the document says; old memory is as it was. -/
import Derived.Test.YtoinafcjkbdjnaaNodeText
import Derived.Test.YtoinafcjkbdjnaaNodeSame
set_option linter.unusedVariables false
namespace Go.Proofs.Ytoinafcjkbdjnaa
open Go.RowKit Copyhold Copyhold.Name

theorem shown_text : nodeB ⟨1, 2, 0, [], []⟩ = [2, 4, 0, 0, 0] := by
  have h : ∀ n : Nat, n < 128 → numB n = [UInt8.ofNat n] := fun n h => numB_small h
  unfold nodeB nodeP headP entsP wholeB textB foldN
  simp only [List.flatMap_nil, List.append_nil, List.length_nil]
  rw [if_neg (by omega), if_neg (by omega), if_neg (by omega), h _ (by decide), h _ (by decide), h _ (by decide), h _ (by decide)]
  rfl

set_option maxHeartbeats 2000000 in
theorem law_shown (w : World) : Calls Try.prog 10 #[] w fun e w' => e = .returned (.bool true) ∧ Below w.heap.size w w' := by
  have ho : OkN ⟨1, 2, 0, [], []⟩ := ⟨⟨by decide, by decide⟩, ⟨by decide, by decide⟩, ⟨by decide, by decide⟩, by simp, fun x hx => (by cases hx), by simp⟩
  have hv : ∀ W : World, NodeV W (.agg #[.int .i64 1, .int .i64 2, .int .i64 0, .string ⟨#[]⟩, .slice none 0 0]) ⟨1, 2, 0, [], []⟩ := fun W => ⟨none, 0, rfl, Ents.nil W⟩
  have HT := Lib.hid (fun W : World => node_Text ⟨1, 2, 0, [], []⟩ _ W (hv W) ho (fun x hx => (by cases hx)) (by simp) (by simp))
  rw [shown_text] at HT
  have HR := Lib.hid (fun W : World => node_Right ⟨1, 2, 0, [], []⟩ _ W (hv W) ho)
  rw [show rightN ⟨1, 2, 0, [], []⟩ = true from by decide] at HR
  have HS := Lib.hid (fun W : World => node_Same ⟨1, 2, 0, [], []⟩ ⟨1, 2, 0, [], []⟩ _ _ W (hv W) (hv W) ho ho)
  rw [sameN_self] at HS
  obtain ⟨W0, hW0⟩ : ∃ W0, W0 = w.alloc (.cells #[.int .i64 1, .int .i64 2, .int .i64 0, .string ⟨#[]⟩, .slice none 0 0] 24) := ⟨_, rfl⟩
  have hb0 : Below w.heap.size w W0 := by rw [hW0]; exact (Below.refl _ _).alloc (Nat.le_refl _) _
  have c0 : W0.cell? ⟨w.heap.size, 0, none⟩ = some (.int .i64 1) := by rw [hW0]; exact cell_new _ _ _ 0
  have c1 : W0.cell? ⟨w.heap.size, 1, none⟩ = some (.int .i64 2) := by rw [hW0]; exact cell_new _ _ _ 1
  have c2 : W0.cell? ⟨w.heap.size, 2, none⟩ = some (.int .i64 0) := by rw [hW0]; exact cell_new _ _ _ 2
  have c3 : W0.cell? ⟨w.heap.size, 3, none⟩ = some (.string ⟨#[]⟩) := by rw [hW0]; exact cell_new _ _ _ 3
  have c4 : W0.cell? ⟨w.heap.size, 4, none⟩ = some (.slice none 0 0) := by rw [hW0]; exact cell_new _ _ _ 4
  have HC := Lib.hid (And.intro c0 (And.intro c1 (And.intro c2 (And.intro c3 c4))))
  have HW := Lib.hid hW0
  have HB0 := Lib.hid hb0
  clear hv ho hW0 hb0 c0 c1 c2 c3 c4
  go_enter Try.func10, Try.ntmps10
  go_wp2_with fail
  rw [← HW.out]
  refine (HT.out _).mono ?_
  rintro e w1 ⟨rfl, hb1⟩
  have HB1 := Lib.hid (below_trans HB0.out hb1 HB0.out.size)
  have d0 := cell_keep hb1 HC.out.1
  have d1 := cell_keep hb1 HC.out.2.1
  have d2 := cell_keep hb1 HC.out.2.2.1
  have d3 := cell_keep hb1 HC.out.2.2.2.1
  have d4 := cell_keep hb1 HC.out.2.2.2.2
  clear hb1
  go_wp2_with fail
  refine (HR.out _).mono ?_
  rintro e w2 ⟨rfl, hb2⟩
  have HB2 := Lib.hid (below_trans HB1.out hb2 HB1.out.size)
  have e0 := cell_keep hb2 d0
  have e1 := cell_keep hb2 d1
  have e2 := cell_keep hb2 d2
  have e3 := cell_keep hb2 d3
  have e4 := cell_keep hb2 d4
  clear hb2 d0 d1 d2 d3 d4
  go_wp2_with fail
  refine (HS.out _).mono ?_
  rintro e w3 ⟨rfl, hb3⟩
  have HB3 := Lib.hid (below_trans HB2.out hb3 HB2.out.size)
  clear hb3
  go_wp2_with fail
  go_ret
  exact ⟨rfl, HB3.out⟩

theorem rightN_long {n : Nd} (h : ¬ n.text.length ≤ 4096) : rightN n = false := by
  rw [Bool.eq_false_iff]
  intro hr
  simp only [rightN, Bool.and_eq_true] at hr
  have h2 := hr.2
  split at h2
  · simp only [Bool.and_eq_true, beq_iff_eq] at h2
    rw [h2.1] at h
    simp at h
  · split at h2
    · simp only [Bool.and_eq_true, decide_eq_true_eq] at h2
      exact h h2.1
    · cases h2

set_option maxHeartbeats 4000000 in
theorem ref07_Right (n : Nd) (v : Value) (w : World) (hv : NodeV w v n) (ho : OkN n) :
    Calls Try.prog 15 #[v] w fun e w' => e = .returned (.bool (rightN n)) ∧ Below w.heap.size w w' := by
  have hlong := rightN_long (n := n)
  obtain ⟨A, c, rfl, hE⟩ := hv
  obtain ⟨ino, kind, links, text, l⟩ := n
  obtain ⟨⟨o1, o2⟩, ⟨o3, o4⟩, ⟨o5, o6⟩, o7, o8, o9⟩ := ho
  simp only at o1 o2 o3 o4 o5 o6 o7 o8 o9 hE hlong ⊢
  obtain ⟨W0, hW0⟩ : ∃ W0, W0 = w.alloc (.cells #[.int .i64 ino, .int .i64 kind, .int .i64 links, .string ⟨text.toArray⟩, .slice A l.length c] 24) := ⟨_, rfl⟩
  have hb0 : Below w.heap.size w W0 := by rw [hW0]; exact (Below.refl _ _).alloc (Nat.le_refl _) _
  have c1 : W0.cell? ⟨w.heap.size, 1, none⟩ = some (.int .i64 kind) := by rw [hW0]; exact cell_new _ _ _ 1
  have c3 : W0.cell? ⟨w.heap.size, 3, none⟩ = some (.string ⟨text.toArray⟩) := by rw [hW0]; exact cell_new _ _ _ 3
  have c4 : W0.cell? ⟨w.heap.size, 4, none⟩ = some (.slice A l.length c) := by rw [hW0]; exact cell_new _ _ _ 4
  have HR := Lib.hid (ref06_Right l A c W0 (hE.below hb0) o8 o9)
  have HW := Lib.hid hW0
  have HB0 := Lib.hid hb0
  have HC := Lib.hid (And.intro c1 (And.intro c3 c4))
  clear hE hW0 hb0 o8 c1 c3 c4
  have hrb : ∀ b, rightN ⟨ino, kind, links, text, l⟩ = b → Hid (rightN ⟨ino, kind, links, text, l⟩ = b) := fun b h => Lib.hid h
  by_cases h1 : 1 ≤ ino ∧ 1 ≤ kind ∧ kind ≤ 3 ∧ 0 ≤ links ∧ links ≤ 64 ∧ text.length ≤ 4096
  · obtain ⟨h1, h2, h3, h4, h5, h6⟩ := h1
    have d1 : decide (ino < 1) = false := by rw [decide_eq_false_iff_not]; omega
    have d2 : decide (kind < 1) = false := by rw [decide_eq_false_iff_not]; omega
    have d3 : decide (3 < kind) = false := by rw [decide_eq_false_iff_not]; omega
    have d4 : decide (links < 0) = false := by rw [decide_eq_false_iff_not]; omega
    have d5 : decide (64 < links) = false := by rw [decide_eq_false_iff_not]; omega
    have d6 : decide ((4096 : Int) < (text.length : Int)) = false := by rw [decide_eq_false_iff_not]; omega
    clear hlong
    by_cases hk : kind = 2
    · subst hk
      by_cases ht : text = []
      · subst ht
        have H := hrb (rightE l) (by simp [rightN, h1, h4, h5])
        clear hrb
        generalize rightE l = r at *
        go_enter Try.func15, Try.ntmps15
        go_wp2_with fail
        rw [← HW.out]
        refine HR.out.mono ?_
        rintro e w1 ⟨rfl, nq, rfl⟩
        obtain ⟨c1, c3, c4⟩ := HC.out
        cases r
        all_goals
          go_wp2_with fail
          go_ret
          exact ⟨by rw [H.out]; rfl, below_dn HB0.out _⟩
      · have H := hrb false (by simp [rightN, ht])
        have hq : (text == []) = false := by simpa using ht
        clear hrb ht
        generalize rightE l = r at *
        go_enter Try.func15, Try.ntmps15
        go_wp2_with fail
        rw [← HW.out]
        refine HR.out.mono ?_
        rintro e w1 ⟨rfl, nq, rfl⟩
        obtain ⟨c1, c3, c4⟩ := HC.out
        cases r
        all_goals
          go_wp2_with fail
          go_ret
          exact ⟨by rw [H.out]; rfl, below_dn HB0.out _⟩
    · have hk2 : kind = 1 ∨ kind = 3 := by omega
      have H := hrb (rightE l && ((l.length : Int) == 0)) (by
        have he : (rightE l && (l == [])) = (l == []) := by
          by_cases hl : l = []
          · subst hl; rfl
          · have : (l == []) = false := by simpa using hl
            rw [this, Bool.and_false]
        rw [← len0, he]
        simp [rightN, h1, h4, h5, h6, hk, hk2])
      have hq : (kind == 2) = false := by simpa using hk
      clear hrb hk
      generalize rightE l = r at *
      go_enter Try.func15, Try.ntmps15
      go_wp2_with fail
      rw [← HW.out]
      refine HR.out.mono ?_
      rintro e w1 ⟨rfl, nq, rfl⟩
      obtain ⟨c1, c3, c4⟩ := HC.out
      cases r
      all_goals
        go_wp2_with fail
        go_ret
        exact ⟨by rw [H.out]; rfl, below_dn HB0.out _⟩
  · have H := hrb false (by
      rw [Bool.eq_false_iff]
      intro h
      have ht : text.length ≤ 4096 := Classical.byContradiction fun hh => by rw [hlong hh] at h; cases h
      simp only [rightN, Bool.and_eq_true, decide_eq_true_eq] at h
      have hk : kind = 2 ∨ kind = 1 ∨ kind = 3 := by
        have h2 := h.2
        split at h2
        · exact .inl (by assumption)
        · split at h2
          · exact .inr (by assumption)
          · cases h2
      exact h1 ⟨h.1.1.1, by omega, by omega, h.1.1.2, h.1.2, ht⟩)
    clear hrb hlong
    have hcs : ino < 1 ∨ 1 ≤ ino ∧ kind < 1 ∨ 1 ≤ ino ∧ 1 ≤ kind ∧ 3 < kind ∨ 1 ≤ ino ∧ 1 ≤ kind ∧ kind ≤ 3 ∧ links < 0 ∨ 1 ≤ ino ∧ 1 ≤ kind ∧ kind ≤ 3 ∧ 0 ≤ links ∧ 64 < links ∨ 1 ≤ ino ∧ 1 ≤ kind ∧ kind ≤ 3 ∧ 0 ≤ links ∧ links ≤ 64 ∧ 4096 < text.length := by omega
    clear h1
    rcases hcs with h | ⟨h, h'⟩ | ⟨h, h', h''⟩ | ⟨h, h', h'', h3⟩ | ⟨h, h', h'', h3, h4⟩ | ⟨h, h', h'', h3, h4, h5⟩
    all_goals
      go_enter Try.func15, Try.ntmps15
      go_wp2_with fail
      go_ret
      exact ⟨by rw [H.out]; rfl, (Below.refl _ _).alloc (Nat.le_refl _) _⟩
end Go.Proofs.Ytoinafcjkbdjnaa
