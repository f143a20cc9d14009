/- Proved: copyholdlaw07.NodeKinds returns true for every node, and leaves it as it was: a directory has no text, what is none has no entries; a node without a number isn't right. No condition beyond the form's own reach. -/
import Derived.Test.YtoinafcjkbdjnaaNodeShown
import Derived.Test.YtoinafcjkbdjnaaLaw
import Derived.IntWalk
namespace Go.Proofs.Ytoinafcjkbdjnaa.nodeKinds
open Go.ChangeShapes Go.WideShapes Go.ChangeAt Go.RowKit Copyhold Copyhold.Name
open Go.ChangeMaps (open_string shut_string)
set_option linter.unusedVariables false

theorem right_kinds {n : Nd} (h : rightN n = true) : 1 ≤ n.ino ∧ (n.kind = 2 → n.text = []) ∧ (n.kind ≠ 2 → n.l = []) := by
  simp only [rightN, Bool.and_eq_true, decide_eq_true_eq] at h
  obtain ⟨⟨⟨h1, _⟩, _⟩, h2⟩ := h
  refine ⟨h1, fun hk => ?_, fun hk => ?_⟩
  · rw [if_pos hk] at h2
    simp only [Bool.and_eq_true, beq_iff_eq] at h2
    exact h2.1
  · rw [if_neg hk] at h2
    split at h2
    · simp only [Bool.and_eq_true, beq_iff_eq] at h2
      exact h2.2
    · cases h2

set_option maxRecDepth 100000 in
set_option maxHeartbeats 8000000 in
theorem walk (w : World) (ino : Int) (w1' : (Lit.int .i64 ino).wf = true) (kind : Int) (w2' : (Lit.int .i64 kind).wf = true) (links : Int) (w3' : (Lit.int .i64 links).wf = true) (text : List UInt8) (z : text.length ≤ 140737488351232) (lv : Value) (l : List Ent) (hl : Ents w lv l) (hok : OkEnts l) (hn : l.length ≤ 5864062014634) :
    Calls Try.prog 6 #[.agg #[.int .i64 ino, .int .i64 kind, .int .i64 links, .string ⟨text.toArray⟩, lv]] w fun e w' => e = .returned (.bool true) ∧ Below w.heap.size w w' := by
  have o1 := i64ok_of w1'
  have o2 := i64ok_of w2'
  have o3 := i64ok_of w3'
  obtain ⟨A, c, rfl, -⟩ := hl.shape
  have ho : OkN ⟨ino, kind, links, text, l⟩ := ⟨o1, o2, o3, z, hok, hn⟩
  have ho0 : OkN ⟨0, kind, links, text, l⟩ := ⟨⟨show (-9223372036854775808 : Int) ≤ 0 by decide, show (0 : Int) ≤ 9223372036854775807 by decide⟩, o2, o3, z, hok, hn⟩
  have HRN := Lib.hid (fun W (h : Below w.heap.size w W) => node_Right ⟨ino, kind, links, text, l⟩ _ W ⟨A, c, rfl, hl.below h⟩ ho)
  have HR0 := Lib.hid (fun W (h : Below w.heap.size w W) => node_Right ⟨0, kind, links, text, l⟩ _ W ⟨A, c, rfl, hl.below h⟩ ho0)
  have HS0 := Lib.hid (fun W (h : Below w.heap.size w W) => node_Size ⟨0, kind, links, text, l⟩ _ W ⟨A, c, rfl, hl.below h⟩ ho0)
  rw [show rightN ⟨0, kind, links, text, l⟩ = false from rfl] at HR0
  have hsz : sizeN ⟨0, kind, links, text, l⟩ ≤ (l.length : Int) + (text.length : Int) ∧ 0 ≤ sizeN ⟨0, kind, links, text, l⟩ := by unfold sizeN; split <;> simp only <;> omega
  have hkd := right_kinds (n := ⟨ino, kind, links, text, l⟩)
  simp only at HRN HR0 HS0 hkd
  obtain ⟨W0, hW0⟩ : ∃ W0, W0 = w.alloc (.cells #[.int .i64 ino, .int .i64 kind, .int .i64 links, .string ⟨text.toArray⟩, .slice A l.length c] 24) := ⟨_, rfl⟩
  have hb0 : Below w.heap.size w W0 := by rw [hW0]; exact (Below.refl _ _).alloc (Nat.le_refl _) _
  have hs0 : W0.heap.size = w.heap.size + 1 := by rw [hW0]; simp
  have c0 : W0.cell? ⟨w.heap.size, 0, none⟩ = some (.int .i64 ino) := by rw [hW0]; exact cell_new _ _ _ 0
  have c1 : W0.cell? ⟨w.heap.size, 1, none⟩ = some (.int .i64 kind) := by rw [hW0]; exact cell_new _ _ _ 1
  have c2 : W0.cell? ⟨w.heap.size, 2, none⟩ = some (.int .i64 links) := by rw [hW0]; exact cell_new _ _ _ 2
  have c3 : W0.cell? ⟨w.heap.size, 3, none⟩ = some (.string ⟨text.toArray⟩) := by rw [hW0]; exact cell_new _ _ _ 3
  have c4 : W0.cell? ⟨w.heap.size, 4, none⟩ = some (.slice A l.length c) := by rw [hW0]; exact cell_new _ _ _ 4
  have fz : W0.frozen? ⟨w.heap.size, 0, none⟩ = false := by rw [hW0]; simp [go_sem]
  have HC := Lib.hid (And.intro c0 (And.intro c1 (And.intro c2 (And.intro c3 (And.intro c4 fz)))))
  have HW := Lib.hid hW0
  have HB0 := Lib.hid hb0
  have HSZ := Lib.hid hsz
  have HKD := Lib.hid hkd
  obtain ⟨o21, o22⟩ := o2
  obtain ⟨o11, o12⟩ := o1
  clear hl hok ho ho0 hW0 hb0 c0 c1 c2 c3 c4 fz hsz hkd w1' w2' w3'
  generalize sizeN ⟨0, kind, links, text, l⟩ = sz at *
  generalize rightN ⟨ino, kind, links, text, l⟩ = r at *
  by_cases hsm : l.length ≤ 300 ∧ text.length ≤ 5000
  · obtain ⟨hl3, ht5⟩ := hsm
    have d1 : decide ((300 : Int) < (l.length : Int)) = false := by rw [decide_eq_false_iff_not]; omega
    have d2 : decide ((5000 : Int) < (text.length : Int)) = false := by rw [decide_eq_false_iff_not]; omega
    have hcase : (r = false) ∨ (r = true ∧ kind = 2 ∧ decide (0 < text.length) = false ∧ 1 ≤ ino) ∨ (r = true ∧ kind ≠ 2 ∧ decide (0 < l.length) = false ∧ 1 ≤ ino) := by
      cases r
      · exact .inl rfl
      · obtain ⟨k1, k2, k3⟩ := HKD.out rfl
        by_cases hk : kind = 2
        · exact .inr (.inl ⟨rfl, hk, by rw [k2 hk]; rfl, k1⟩)
        · exact .inr (.inr ⟨rfl, hk, by rw [k3 hk]; rfl, k1⟩)
    clear HKD
    have hfin : ∀ W : World, Below w.heap.size w W → True := fun _ _ => trivial
    rcases hcase with rfl | ⟨rfl, rfl, hq0, hi⟩ | ⟨rfl, hk, hq0, hi⟩
    · go_enter Try.func6, Try.ntmps6
      go_wp2_with fail
      rw [← HW.out]
      refine (law_shown _).mono ?_
      rintro e w1 ⟨rfl, hb1⟩
      have HB1 := Lib.hid (below_trans HB0.out hb1 HB0.out.size)
      have e0 := cell_keep hb1 HC.out.1
      have e1 := cell_keep hb1 HC.out.2.1
      have e2 := cell_keep hb1 HC.out.2.2.1
      have e3 := cell_keep hb1 HC.out.2.2.2.1
      have e4 := cell_keep hb1 HC.out.2.2.2.2.1
      have f0 := ((bcell hb1).2 w.heap.size 0 (by omega)).trans HC.out.2.2.2.2.2
      have hs1 := hb1.size
      clear hb1
      go_wp2_with fail
      refine (HRN.out _ HB1.out).mono ?_
      rintro e w2 ⟨rfl, hb2⟩
      have HB2 := Lib.hid (below_trans HB1.out hb2 HB1.out.size)
      have g0 := cell_keep hb2 e0
      have g1 := cell_keep hb2 e1
      have g2 := cell_keep hb2 e2
      have g3 := cell_keep hb2 e3
      have g4 := cell_keep hb2 e4
      have h0 := ((bcell hb2).2 w.heap.size 0 (by omega)).trans f0
      clear hb2 e0 e1 e2 e3 e4 f0
      go_wp2_with fail
      obtain ⟨W3, hW3⟩ : ∃ W3, W3 = w2.setCell ⟨w.heap.size, 0, none⟩ (.int .i64 0) := ⟨_, rfl⟩
      have hb3 : Below w.heap.size w W3 := by rw [hW3]; exact HB2.out.setCell (p := ⟨w.heap.size, 0, none⟩) (Nat.le_refl _) _
      have k0 : W3.cell? ⟨w.heap.size, 0, none⟩ = some (.int .i64 0) := by rw [hW3]; exact World.cell?_setCell_same _ _ _ g0
      have k1 : W3.cell? ⟨w.heap.size, 1, none⟩ = some (.int .i64 kind) := by rw [hW3, World.cell?_setCell_other _ _ _ _ (by intro h; simp at h)]; exact g1
      have k2 : W3.cell? ⟨w.heap.size, 2, none⟩ = some (.int .i64 links) := by rw [hW3, World.cell?_setCell_other _ _ _ _ (by intro h; simp at h)]; exact g2
      have k3 : W3.cell? ⟨w.heap.size, 3, none⟩ = some (.string ⟨text.toArray⟩) := by rw [hW3, World.cell?_setCell_other _ _ _ _ (by intro h; simp at h)]; exact g3
      have k4 : W3.cell? ⟨w.heap.size, 4, none⟩ = some (.slice A l.length c) := by rw [hW3, World.cell?_setCell_other _ _ _ _ (by intro h; simp at h)]; exact g4
      rw [← hW3]
      have hb30 := below_dn hb3 1
      have hadd : IntKind.i64.wrap ((l.length : Int) + (text.length : Int)) = (l.length : Int) + (text.length : Int) := IntWalk.i64_in _ (by omega)
      clear g0 g1 g2 g3 g4 h0 hW3
      first | (go_region_held3 (fun W => W.cell? ⟨w.heap.size, 0, none⟩ = some (.int .i64 0) ∧ W.cell? ⟨w.heap.size, 1, none⟩ = some (.int .i64 kind) ∧ W.cell? ⟨w.heap.size, 2, none⟩ = some (.int .i64 links) ∧ W.cell? ⟨w.heap.size, 3, none⟩ = some (.string ⟨text.toArray⟩) ∧ W.cell? ⟨w.heap.size, 4, none⟩ = some (.slice A l.length c) ∧ Below w.heap.size w W) (first | (go_keep; done) | (go_split_ands; refine ⟨?_, ?_, ?_, ?_, ?_, ?_⟩; all_goals first | exact cell_keep hb7 (by assumption) | exact below_trans (by assumption) hb7 (Below.size (by assumption)) | exact hb30 | assumption)) (first | (go_at_call 14; go_split_ands; refine (HR0.out _ (by assumption)).mono ?_; rintro e w7 ⟨rfl, hb7⟩) | (go_at_call 16; go_split_ands; refine (HS0.out _ (by assumption)).mono ?_; rintro e w7 ⟨rfl, hb7⟩))) | fail "no region"
      all_goals
        clear hadd
        have hsl := HSZ.out
        go_wp2_with fail
        go_ret
        refine ⟨?_, by go_split_ands; assumption⟩
        first | rfl | exact ret_bool (by simp <;> omega)
    · have hq1 : decide (ino < 1) = false := by rw [decide_eq_false_iff_not]; omega
      go_enter Try.func6, Try.ntmps6
      go_wp2_with fail
      rw [← HW.out]
      refine (law_shown _).mono ?_
      rintro e w1 ⟨rfl, hb1⟩
      have HB1 := Lib.hid (below_trans HB0.out hb1 HB0.out.size)
      have e0 := cell_keep hb1 HC.out.1
      have e1 := cell_keep hb1 HC.out.2.1
      have e2 := cell_keep hb1 HC.out.2.2.1
      have e3 := cell_keep hb1 HC.out.2.2.2.1
      have e4 := cell_keep hb1 HC.out.2.2.2.2.1
      have f0 := ((bcell hb1).2 w.heap.size 0 (by omega)).trans HC.out.2.2.2.2.2
      have hs1 := hb1.size
      clear hb1
      go_wp2_with fail
      refine (HRN.out _ HB1.out).mono ?_
      rintro e w2 ⟨rfl, hb2⟩
      have HB2 := Lib.hid (below_trans HB1.out hb2 HB1.out.size)
      have g0 := cell_keep hb2 e0
      have g1 := cell_keep hb2 e1
      have g2 := cell_keep hb2 e2
      have g3 := cell_keep hb2 e3
      have g4 := cell_keep hb2 e4
      have h0 := ((bcell hb2).2 w.heap.size 0 (by omega)).trans f0
      clear hb2 e0 e1 e2 e3 e4 f0
      go_wp2_with fail
      obtain ⟨W3, hW3⟩ : ∃ W3, W3 = w2.setCell ⟨w.heap.size, 0, none⟩ (.int .i64 0) := ⟨_, rfl⟩
      have hb3 : Below w.heap.size w W3 := by rw [hW3]; exact HB2.out.setCell (p := ⟨w.heap.size, 0, none⟩) (Nat.le_refl _) _
      have k0 : W3.cell? ⟨w.heap.size, 0, none⟩ = some (.int .i64 0) := by rw [hW3]; exact World.cell?_setCell_same _ _ _ g0
      have k1 : W3.cell? ⟨w.heap.size, 1, none⟩ = some (.int .i64 2) := by rw [hW3, World.cell?_setCell_other _ _ _ _ (by intro h; simp at h)]; exact g1
      have k2 : W3.cell? ⟨w.heap.size, 2, none⟩ = some (.int .i64 links) := by rw [hW3, World.cell?_setCell_other _ _ _ _ (by intro h; simp at h)]; exact g2
      have k3 : W3.cell? ⟨w.heap.size, 3, none⟩ = some (.string ⟨text.toArray⟩) := by rw [hW3, World.cell?_setCell_other _ _ _ _ (by intro h; simp at h)]; exact g3
      have k4 : W3.cell? ⟨w.heap.size, 4, none⟩ = some (.slice A l.length c) := by rw [hW3, World.cell?_setCell_other _ _ _ _ (by intro h; simp at h)]; exact g4
      rw [← hW3]
      have hb30 := below_dn hb3 1
      have hadd : IntKind.i64.wrap ((l.length : Int) + (text.length : Int)) = (l.length : Int) + (text.length : Int) := IntWalk.i64_in _ (by omega)
      clear g0 g1 g2 g3 g4 h0 hW3
      first | (go_region_held3 (fun W => W.cell? ⟨w.heap.size, 0, none⟩ = some (.int .i64 0) ∧ W.cell? ⟨w.heap.size, 1, none⟩ = some (.int .i64 2) ∧ W.cell? ⟨w.heap.size, 2, none⟩ = some (.int .i64 links) ∧ W.cell? ⟨w.heap.size, 3, none⟩ = some (.string ⟨text.toArray⟩) ∧ W.cell? ⟨w.heap.size, 4, none⟩ = some (.slice A l.length c) ∧ Below w.heap.size w W) (first | (go_keep; done) | (go_split_ands; refine ⟨?_, ?_, ?_, ?_, ?_, ?_⟩; all_goals first | exact cell_keep hb7 (by assumption) | exact below_trans (by assumption) hb7 (Below.size (by assumption)) | exact hb30 | assumption)) (first | (go_at_call 14; go_split_ands; refine (HR0.out _ (by assumption)).mono ?_; rintro e w7 ⟨rfl, hb7⟩) | (go_at_call 16; go_split_ands; refine (HS0.out _ (by assumption)).mono ?_; rintro e w7 ⟨rfl, hb7⟩))) | fail "no region"
      all_goals
        clear hadd
        have hsl := HSZ.out
        go_wp2_with fail
        go_ret
        refine ⟨?_, by go_split_ands; assumption⟩
        first | rfl | exact ret_bool (by simp <;> omega)
    · have hq1 : decide (ino < 1) = false := by rw [decide_eq_false_iff_not]; omega
      have hq2 : (kind == 2) = false := by simpa using hk
      go_enter Try.func6, Try.ntmps6
      go_wp2_with fail
      rw [← HW.out]
      refine (law_shown _).mono ?_
      rintro e w1 ⟨rfl, hb1⟩
      have HB1 := Lib.hid (below_trans HB0.out hb1 HB0.out.size)
      have e0 := cell_keep hb1 HC.out.1
      have e1 := cell_keep hb1 HC.out.2.1
      have e2 := cell_keep hb1 HC.out.2.2.1
      have e3 := cell_keep hb1 HC.out.2.2.2.1
      have e4 := cell_keep hb1 HC.out.2.2.2.2.1
      have f0 := ((bcell hb1).2 w.heap.size 0 (by omega)).trans HC.out.2.2.2.2.2
      have hs1 := hb1.size
      clear hb1
      go_wp2_with fail
      refine (HRN.out _ HB1.out).mono ?_
      rintro e w2 ⟨rfl, hb2⟩
      have HB2 := Lib.hid (below_trans HB1.out hb2 HB1.out.size)
      have g0 := cell_keep hb2 e0
      have g1 := cell_keep hb2 e1
      have g2 := cell_keep hb2 e2
      have g3 := cell_keep hb2 e3
      have g4 := cell_keep hb2 e4
      have h0 := ((bcell hb2).2 w.heap.size 0 (by omega)).trans f0
      clear hb2 e0 e1 e2 e3 e4 f0
      go_wp2_with fail
      obtain ⟨W3, hW3⟩ : ∃ W3, W3 = w2.setCell ⟨w.heap.size, 0, none⟩ (.int .i64 0) := ⟨_, rfl⟩
      have hb3 : Below w.heap.size w W3 := by rw [hW3]; exact HB2.out.setCell (p := ⟨w.heap.size, 0, none⟩) (Nat.le_refl _) _
      have k0 : W3.cell? ⟨w.heap.size, 0, none⟩ = some (.int .i64 0) := by rw [hW3]; exact World.cell?_setCell_same _ _ _ g0
      have k1 : W3.cell? ⟨w.heap.size, 1, none⟩ = some (.int .i64 kind) := by rw [hW3, World.cell?_setCell_other _ _ _ _ (by intro h; simp at h)]; exact g1
      have k2 : W3.cell? ⟨w.heap.size, 2, none⟩ = some (.int .i64 links) := by rw [hW3, World.cell?_setCell_other _ _ _ _ (by intro h; simp at h)]; exact g2
      have k3 : W3.cell? ⟨w.heap.size, 3, none⟩ = some (.string ⟨text.toArray⟩) := by rw [hW3, World.cell?_setCell_other _ _ _ _ (by intro h; simp at h)]; exact g3
      have k4 : W3.cell? ⟨w.heap.size, 4, none⟩ = some (.slice A l.length c) := by rw [hW3, World.cell?_setCell_other _ _ _ _ (by intro h; simp at h)]; exact g4
      rw [← hW3]
      have hb30 := below_dn hb3 1
      have hadd : IntKind.i64.wrap ((l.length : Int) + (text.length : Int)) = (l.length : Int) + (text.length : Int) := IntWalk.i64_in _ (by omega)
      clear g0 g1 g2 g3 g4 h0 hW3
      first | (go_region_held3 (fun W => W.cell? ⟨w.heap.size, 0, none⟩ = some (.int .i64 0) ∧ W.cell? ⟨w.heap.size, 1, none⟩ = some (.int .i64 kind) ∧ W.cell? ⟨w.heap.size, 2, none⟩ = some (.int .i64 links) ∧ W.cell? ⟨w.heap.size, 3, none⟩ = some (.string ⟨text.toArray⟩) ∧ W.cell? ⟨w.heap.size, 4, none⟩ = some (.slice A l.length c) ∧ Below w.heap.size w W) (first | (go_keep; done) | (go_split_ands; refine ⟨?_, ?_, ?_, ?_, ?_, ?_⟩; all_goals first | exact cell_keep hb7 (by assumption) | exact below_trans (by assumption) hb7 (Below.size (by assumption)) | exact hb30 | assumption)) (first | (go_at_call 14; go_split_ands; refine (HR0.out _ (by assumption)).mono ?_; rintro e w7 ⟨rfl, hb7⟩) | (go_at_call 16; go_split_ands; refine (HS0.out _ (by assumption)).mono ?_; rintro e w7 ⟨rfl, hb7⟩))) | fail "no region"
      all_goals
        clear hadd
        have hsl := HSZ.out
        go_wp2_with fail
        go_ret
        refine ⟨?_, by go_split_ands; assumption⟩
        first | rfl | exact ret_bool (by simp <;> omega)
  · rcases (show 300 < l.length ∨ l.length ≤ 300 ∧ 5000 < text.length from by omega) with h | ⟨h, h'⟩
    all_goals
      clear hsm
      go_enter Try.func6, Try.ntmps6
      go_wp2_with fail
      rw [← HW.out]
      refine (law_shown _).mono ?_
      rintro e w1 ⟨rfl, hb1⟩
      have HB1 := Lib.hid (below_trans HB0.out hb1 HB0.out.size)
      have e3 := cell_keep hb1 HC.out.2.2.2.1
      have e4 := cell_keep hb1 HC.out.2.2.2.2.1
      clear hb1
      go_wp2_with fail
      go_ret
      exact ⟨rfl, HB1.out⟩

theorem own : ownKnob Try.prog.godebug = none := by kernel_rfl
theorem laidOut : laidOutB Try.prog = true := by kernel_rfl
theorem cellscopyhold_api_Node : Try.prog.cellsOf 24 = 5 := by kernel_rfl
theorem cellsint : Try.prog.cellsOf 3 = 1 := by kernel_rfl
theorem cellsstring : Try.prog.cellsOf 9 = 1 := by kernel_rfl
theorem cells__api_Entry : Try.prog.cellsOf 22 = 1 := by kernel_rfl

set_option maxRecDepth 100000 in
set_option maxHeartbeats 1000000 in
theorem lifted (os : Os) (started : os.Started) (H : Type) (enc : TypeId × Value → H) :
    ReturnsInHanded {} Try.checked os 6 .any (Rows.nodeKindsSpec.pre6 enc Try.prog Try.f6 Rows.nodeKindsRow.domain false) (Rows.nodeKindsSpec.post enc Try.prog Try.f6 false true false false) := by
  refine returnsInHanded_of_change_sized (C := Try.checked) own started (by kernel_rfl) Try.func6
    (ChangeSpec.witness6 (enc := enc) (C := Try.checked) false ⟨#[], #[.agg #[.int .i64 0, .int .i64 0, .int .i64 0, .string ByteArray.empty, .slice none 0 0]], []⟩ 8 (by kernel_rfl) (by kernel_rfl) (by kernel_rfl) (by kernel_rfl)) ?_
  intro W base args ds gs before hval0 hW hcnd hsz0 _
  have hsz : (DataW.weightsEach Try.prog (Try.f6.params.toList ++ []) (ds ++ gs)).all (· ≤ reachBytes) = true := hsz0
  clear hsz0
  have hval : ∀ (j : Nat) t v, Try.f6.params[j]? = some t → args[j]? = some v → Value.okWide Try.prog W .any base t v := hval0
  have hW' := hW
  have hlt := hW.lt
  obtain ⟨p, q, hA0, hV, rfl, hfz, hnd⟩ := hW
  have hA : DataW.TrodAll enc Try.prog W 0 (fun _ => true) true Try.f6.params.toList args.toList ds p := hA0
  rw [Try.params6] at hA hval
  obtain ⟨v0, vs0, d0, ds0, p0, q0, hargs, rfl, rfl, h0, r0⟩ := trodAll_cons hA
  obtain ⟨rfl, rfl, rfl⟩ := trodAll_nil r0
  obtain rfl : args = #[v0] := by cases args; simp_all
  obtain ⟨rfl, rfl⟩ := trodVars_none hV
  obtain ⟨cs0, rfl, hcz0⟩ := okWide_struct Try.underlying24 (hval 0 24 v0 rfl rfl)
  rw [cellscopyhold_api_Node] at hcz0
  obtain ⟨c0_0, c0_1, c0_2, c0_3, c0_4, rfl⟩ := array5_of hcz0
  obtain ⟨fuel0, hf0⟩ := h0
  obtain ⟨xs0, m0, _, hx0, _, hlen0, hfl0⟩ := DataW.trod_struct Try.underlying24 hf0
  obtain ⟨y0_0, y0_1, y0_2, y0_3, y0_4, rfl⟩ := list5 hlen0
  have g0_0 : DataW.trod enc Try.prog W 0 (fun _ => true) true m0 3 [c0_0] = some y0_0 := by have h := hfl0 0 _ rfl; simpa [Value.cells, cellsint] using h
  have g0_1 : DataW.trod enc Try.prog W 0 (fun _ => true) true m0 3 [c0_1] = some y0_1 := by have h := hfl0 1 _ rfl; simpa [Value.cells, cellsint] using h
  have g0_2 : DataW.trod enc Try.prog W 0 (fun _ => true) true m0 3 [c0_2] = some y0_2 := by have h := hfl0 2 _ rfl; simpa [Value.cells, cellsint] using h
  have g0_3 : DataW.trod enc Try.prog W 0 (fun _ => true) true m0 9 [c0_3] = some y0_3 := by have h := hfl0 3 _ rfl; simpa [Value.cells, cellsstring] using h
  have g0_4 : DataW.trod enc Try.prog W 0 (fun _ => true) true m0 22 [c0_4] = some y0_4 := by have h := hfl0 4 _ rfl; simpa [Value.cells, cells__api_Entry] using h
  simp only [Prod.mk.injEq] at hx0
  obtain ⟨rfl, hp0⟩ := hx0
  subst hp0
  obtain ⟨a0_0, ev0_0, ey0_0, w0_0⟩ := DataW.trod_int Try.underlying3 g0_0
  obtain rfl : c0_0 = _ := by simpa using ev0_0
  subst ey0_0
  obtain ⟨a0_1, ev0_1, ey0_1, w0_1⟩ := DataW.trod_int Try.underlying3 g0_1
  obtain rfl : c0_1 = _ := by simpa using ev0_1
  subst ey0_1
  obtain ⟨a0_2, ev0_2, ey0_2, w0_2⟩ := DataW.trod_int Try.underlying3 g0_2
  obtain rfl : c0_2 = _ := by simpa using ev0_2
  subst ey0_2
  obtain ⟨s0_3, ev0_3, ey0_3, w0_3⟩ := DataW.trod_string Try.underlying9 g0_3
  obtain rfl : c0_3 = _ := by simpa using ev0_3
  subst ey0_3
  have z0_3 : s0_3.data.toList.length ≤ 140737488351232 := sized_deep hsz (by rw [Try.params6]; simp [DataW.weightsEach, DataW.weights, Try.underlying24])
  obtain ⟨a0_3, rfl⟩ : ∃ l : List UInt8, s0_3 = ⟨l.toArray⟩ := ⟨s0_3.data.toList, rfl⟩
  have hw0_4 : ∀ n ∈ DataW.weights Try.prog 22 y0_4.1, n ≤ 140737488351232 := fun n hn => sized_deep hsz (by rw [Try.params6]; simp [DataW.weightsEach, DataW.weights, Try.underlying24, hn])
  obtain ⟨u0_4, a0_4, ev0_4, f0_4_0, f0_4_1, f0_4_2⟩ := open_ents g0_4 (fun x hx => hlt x (by simp [hx])) hw0_4
  obtain rfl : c0_4 = _ := by simpa using ev0_4
  refine (walk W a0_0 w0_0 a0_1 w0_1 a0_2 w0_2 a0_3 z0_3 c0_4 a0_4 f0_4_0 f0_4_1 f0_4_2).mono fun e W' ⟨he, hg⟩ => ?_
  subst he
  exact ⟨_, rfl, Copyhold.law_post laidOut (by kernel_rfl) (by kernel_rfl) Try.underlying4 rfl rfl rfl rfl hW' hg⟩

theorem over : Rows.nodeKindsRow.holds Try.pinned (OpenSpec.ofChange Rows.nodeKindsSpec) :=
  OpenClaim.holds_of_wide 6 Try.f6 rfl rfl rfl rfl rfl rfl rfl ⟨rfl, rfl, rfl, rfl, rfl⟩ rfl rfl rfl rfl rfl (by kernel_rfl) Try.func6 (by kernel_rfl)
    (of_decide_eq_true (by kernel_rfl)) (by unfold Func.isWrapper; first | (rw [if_pos (by decide +kernel)]; kernel_rfl) | (rw [if_neg (by decide +kernel)]; exact ⟨rfl, rfl⟩))
    (fun os started H enc _ => lifted os started H enc)

theorem proved : Rows.NodeKindsSaid :=
  over
end Go.Proofs.Ytoinafcjkbdjnaa.nodeKinds
