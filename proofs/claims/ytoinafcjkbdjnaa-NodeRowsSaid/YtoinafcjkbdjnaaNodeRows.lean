/- Proved: copyholdlaw07.NodeRows returns true for every two nodes, and leaves them as they were: right nodes' texts one behind the other are taken one by one. No condition beyond the form's own reach. -/
import Derived.Test.YtoinafcjkbdjnaaNodeTake
import Derived.Test.YtoinafcjkbdjnaaNodeSame2
import Derived.Test.YtoinafcjkbdjnaaLaw
import Derived.IntWalk
import Derived.Deep.RegionHeld3
namespace Go.Proofs.Ytoinafcjkbdjnaa.nodeRows
open Go.ChangeShapes Go.WideShapes Go.ChangeAt Go.RowKit Copyhold Copyhold.Name
open Go.ChangeMaps (open_string shut_string)
set_option linter.unusedVariables false
set_option linter.unusedSimpArgs false

set_option maxRecDepth 100000 in
set_option maxHeartbeats 16000000 in
theorem walk (w : World) (ino1 : Int) (w11 : (Lit.int .i64 ino1).wf = true) (kind1 : Int) (w21 : (Lit.int .i64 kind1).wf = true) (links1 : Int) (w31 : (Lit.int .i64 links1).wf = true) (text1 : List UInt8) (z1 : text1.length ≤ 140737488351232) (lv1 : Value) (l1 : List Ent) (hl1 : Ents w lv1 l1) (hok1 : OkEnts l1) (hn1 : l1.length ≤ 5864062014634) (ino2 : Int) (w12 : (Lit.int .i64 ino2).wf = true) (kind2 : Int) (w22 : (Lit.int .i64 kind2).wf = true) (links2 : Int) (w32 : (Lit.int .i64 links2).wf = true) (text2 : List UInt8) (z2 : text2.length ≤ 140737488351232) (lv2 : Value) (l2 : List Ent) (hl2 : Ents w lv2 l2) (hok2 : OkEnts l2) (hn2 : l2.length ≤ 5864062014634) :
    Calls Try.prog 8 #[.agg #[.int .i64 ino1, .int .i64 kind1, .int .i64 links1, .string ⟨text1.toArray⟩, lv1], .agg #[.int .i64 ino2, .int .i64 kind2, .int .i64 links2, .string ⟨text2.toArray⟩, lv2]] w fun e w' => e = .returned (.bool true) ∧ Below w.heap.size w w' := by
  obtain ⟨A1, c1, rfl, -⟩ := hl1.shape
  have ho1 : OkN ⟨ino1, kind1, links1, text1, l1⟩ := ⟨i64ok_of w11, i64ok_of w21, i64ok_of w31, z1, hok1, hn1⟩
  have HRN1 := Lib.hid (fun W (h : Below w.heap.size w W) => ref07_Right ⟨ino1, kind1, links1, text1, l1⟩ _ W ⟨A1, c1, rfl, hl1.below h⟩ ho1)
  have HNV1 := Lib.hid (fun W (h : Below w.heap.size w W) => (⟨A1, c1, rfl, hl1.below h⟩ : NodeV W (.agg #[.int .i64 ino1, .int .i64 kind1, .int .i64 links1, .string ⟨text1.toArray⟩, .slice A1 l1.length c1]) ⟨ino1, kind1, links1, text1, l1⟩))
  obtain ⟨A2, c2, rfl, -⟩ := hl2.shape
  have ho2 : OkN ⟨ino2, kind2, links2, text2, l2⟩ := ⟨i64ok_of w12, i64ok_of w22, i64ok_of w32, z2, hok2, hn2⟩
  have HRN2 := Lib.hid (fun W (h : Below w.heap.size w W) => ref07_Right ⟨ino2, kind2, links2, text2, l2⟩ _ W ⟨A2, c2, rfl, hl2.below h⟩ ho2)
  have HNV2 := Lib.hid (fun W (h : Below w.heap.size w W) => (⟨A2, c2, rfl, hl2.below h⟩ : NodeV W (.agg #[.int .i64 ino2, .int .i64 kind2, .int .i64 links2, .string ⟨text2.toArray⟩, .slice A2 l2.length c2]) ⟨ino2, kind2, links2, text2, l2⟩))
  obtain ⟨W0, hW0⟩ : ∃ W0, W0 = (w.alloc (.cells #[.int .i64 ino1, .int .i64 kind1, .int .i64 links1, .string ⟨text1.toArray⟩, .slice A1 l1.length c1] 24)).alloc (.cells #[.int .i64 ino2, .int .i64 kind2, .int .i64 links2, .string ⟨text2.toArray⟩, .slice A2 l2.length c2] 24) := ⟨_, rfl⟩
  have hb0 : Below w.heap.size w W0 := by rw [hW0]; exact ((Below.refl _ _).alloc (Nat.le_refl _) _).alloc (by simp) _
  have t01 : TBox W0 w.heap.size 24 #[.int .i64 ino1, .int .i64 kind1, .int .i64 links1, .string ⟨text1.toArray⟩, .slice A1 l1.length c1] := by rw [hW0]; exact (TBox.new _ _ _).below ((Below.refl _ _).alloc (Nat.le_refl _) _)
  have t02 : TBox W0 (w.heap.size + 1) 24 #[.int .i64 ino2, .int .i64 kind2, .int .i64 links2, .string ⟨text2.toArray⟩, .slice A2 l2.length c2] := by
    rw [hW0]
    have h := TBox.new (w.alloc (.cells #[.int .i64 ino1, .int .i64 kind1, .int .i64 links1, .string ⟨text1.toArray⟩, .slice A1 l1.length c1] 24)) 24 #[.int .i64 ino2, .int .i64 kind2, .int .i64 links2, .string ⟨text2.toArray⟩, .slice A2 l2.length c2]
    rw [show (w.alloc (.cells #[.int .i64 ino1, .int .i64 kind1, .int .i64 links1, .string ⟨text1.toArray⟩, .slice A1 l1.length c1] 24)).heap.size = w.heap.size + 1 from by simp] at h
    exact h
  have HT01 := Lib.hid t01
  have HT02 := Lib.hid t02
  have HW := Lib.hid hW0
  have HB0 := Lib.hid hb0
  have HO1 := Lib.hid ho1
  have HO2 := Lib.hid ho2
  clear hl1 hok1 ho1 hl2 hok2 ho2 hW0 hb0 t01 t02 w11 w21 w31 w12 w22 w32
  by_cases hsm : l1.length + l2.length ≤ 300 ∧ text1.length + text2.length ≤ 5000
  · obtain ⟨s1, s2⟩ := hsm
    have d1 : decide ((300 : Int) < (l1.length : Int) + (l2.length : Int)) = false := by rw [decide_eq_false_iff_not]; omega
    have d2 : decide ((5000 : Int) < (text1.length : Int) + (text2.length : Int)) = false := by rw [decide_eq_false_iff_not]; omega
    by_cases hr1 : rightN ⟨ino1, kind1, links1, text1, l1⟩ = true
    · by_cases hr2 : rightN ⟨ino2, kind2, links2, text2, l2⟩ = true
      · obtain ⟨r11, r12, r13⟩ := right_parts hr1 HO1.out
        obtain ⟨r21, r22, r23⟩ := right_parts hr2 HO2.out
        have hp1 := takeNode_parses _ hr1 HO1.out
        have hp2 := takeNode_parses _ hr2 HO2.out
        rw [hr1] at HRN1
        rw [hr2] at HRN2
        have HTX1 := Lib.hid (fun W (h : Below w.heap.size w W) => node_Text ⟨ino1, kind1, links1, text1, l1⟩ _ W (HNV1.out W h) HO1.out (fun x hx => by have := (r13 x hx).1; omega) (by simp only; omega) (by simp only; omega))
        have HTX2 := Lib.hid (fun W (h : Below w.heap.size w W) => node_Text ⟨ino2, kind2, links2, text2, l2⟩ _ W (HNV2.out W h) HO2.out (fun x hx => by have := (r23 x hx).1; omega) (by simp only; omega) (by simp only; omega))
        have hb1 := nodeB_size ⟨ino1, kind1, links1, text1, l1⟩ HO1.out (fun x hx => by have := (r13 x hx).1; omega) (by simp only; omega) (by simp only; omega)
        have hb2 := nodeB_size ⟨ino2, kind2, links2, text2, l2⟩ HO2.out (fun x hx => by have := (r23 x hx).1; omega) (by simp only; omega) (by simp only; omega)
        have hq1 := hp1.1 (nodeB ⟨ino2, kind2, links2, text2, l2⟩)
        have hq2 := hp2.1 []
        rw [List.append_nil] at hq2
        obtain ⟨B1, hB1⟩ : ∃ B, B = nodeB ⟨ino1, kind1, links1, text1, l1⟩ := ⟨_, rfl⟩
        obtain ⟨B2, hB2⟩ : ∃ B, B = nodeB ⟨ino2, kind2, links2, text2, l2⟩ := ⟨_, rfl⟩
        rw [← hB1] at HTX1 hb1 hq1
        rw [← hB2] at HTX2 hb2 hq1 hq2
        have HTK1 := Lib.hid (fun W => node_Take2 (B1 ++ B2) W (by rw [List.length_append]; omega))
        have HTK2 := Lib.hid (fun W => node_Take B2 W (by omega))
        rw [hq1] at HTK1
        rw [hq2] at HTK2
        have hcat : B1.length + B2.length ≤ 9223372036854775807 := by omega
        have hcat2 : ¬ 9223372036854775807 < B1.length + B2.length := by omega
        have hbl1 : B1.length ≤ 2000000000000 := hb1
        have hbl2 : B2.length ≤ 2000000000000 := hb2
        clear hp1 hp2 hq1 hq2 hB1 hB2 hb1 hb2 hr1 hr2 r11 r12 r13 r21 r22 r23
        have HSA : Hid (∀ (W : World) (ob : Obj), (fun W => W.cell? ⟨w.heap.size, 0, none⟩ = some (.int .i64 ino1) ∧ W.cell? ⟨w.heap.size, 1, none⟩ = some (.int .i64 kind1) ∧ W.cell? ⟨w.heap.size, 2, none⟩ = some (.int .i64 links1) ∧ W.cell? ⟨w.heap.size, 3, none⟩ = some (.string ⟨text1.toArray⟩) ∧ W.cell? ⟨w.heap.size, 4, none⟩ = some (.slice A1 l1.length c1) ∧ W.cell? ⟨w.heap.size + 1, 0, none⟩ = some (.int .i64 ino2) ∧ W.cell? ⟨w.heap.size + 1, 1, none⟩ = some (.int .i64 kind2) ∧ W.cell? ⟨w.heap.size + 1, 2, none⟩ = some (.int .i64 links2) ∧ W.cell? ⟨w.heap.size + 1, 3, none⟩ = some (.string ⟨text2.toArray⟩) ∧ W.cell? ⟨w.heap.size + 1, 4, none⟩ = some (.slice A2 l2.length c2) ∧ Below w.heap.size w W) W → (fun W => W.cell? ⟨w.heap.size, 0, none⟩ = some (.int .i64 ino1) ∧ W.cell? ⟨w.heap.size, 1, none⟩ = some (.int .i64 kind1) ∧ W.cell? ⟨w.heap.size, 2, none⟩ = some (.int .i64 links1) ∧ W.cell? ⟨w.heap.size, 3, none⟩ = some (.string ⟨text1.toArray⟩) ∧ W.cell? ⟨w.heap.size, 4, none⟩ = some (.slice A1 l1.length c1) ∧ W.cell? ⟨w.heap.size + 1, 0, none⟩ = some (.int .i64 ino2) ∧ W.cell? ⟨w.heap.size + 1, 1, none⟩ = some (.int .i64 kind2) ∧ W.cell? ⟨w.heap.size + 1, 2, none⟩ = some (.int .i64 links2) ∧ W.cell? ⟨w.heap.size + 1, 3, none⟩ = some (.string ⟨text2.toArray⟩) ∧ W.cell? ⟨w.heap.size + 1, 4, none⟩ = some (.slice A2 l2.length c2) ∧ Below w.heap.size w W) (W.alloc ob)) := Lib.hid (fun W ob h => ⟨cell_alloc _ h.1, cell_alloc _ h.2.1, cell_alloc _ h.2.2.1, cell_alloc _ h.2.2.2.1, cell_alloc _ h.2.2.2.2.1, cell_alloc _ h.2.2.2.2.2.1, cell_alloc _ h.2.2.2.2.2.2.1, cell_alloc _ h.2.2.2.2.2.2.2.1, cell_alloc _ h.2.2.2.2.2.2.2.2.1, cell_alloc _ h.2.2.2.2.2.2.2.2.2.1, Below.alloc h.2.2.2.2.2.2.2.2.2.2 (Below.size h.2.2.2.2.2.2.2.2.2.2) _⟩)
        have HSB : Hid (∀ (W W2 : World), (fun W => W.cell? ⟨w.heap.size, 0, none⟩ = some (.int .i64 ino1) ∧ W.cell? ⟨w.heap.size, 1, none⟩ = some (.int .i64 kind1) ∧ W.cell? ⟨w.heap.size, 2, none⟩ = some (.int .i64 links1) ∧ W.cell? ⟨w.heap.size, 3, none⟩ = some (.string ⟨text1.toArray⟩) ∧ W.cell? ⟨w.heap.size, 4, none⟩ = some (.slice A1 l1.length c1) ∧ W.cell? ⟨w.heap.size + 1, 0, none⟩ = some (.int .i64 ino2) ∧ W.cell? ⟨w.heap.size + 1, 1, none⟩ = some (.int .i64 kind2) ∧ W.cell? ⟨w.heap.size + 1, 2, none⟩ = some (.int .i64 links2) ∧ W.cell? ⟨w.heap.size + 1, 3, none⟩ = some (.string ⟨text2.toArray⟩) ∧ W.cell? ⟨w.heap.size + 1, 4, none⟩ = some (.slice A2 l2.length c2) ∧ Below w.heap.size w W) W → Below W.heap.size W W2 → (fun W => W.cell? ⟨w.heap.size, 0, none⟩ = some (.int .i64 ino1) ∧ W.cell? ⟨w.heap.size, 1, none⟩ = some (.int .i64 kind1) ∧ W.cell? ⟨w.heap.size, 2, none⟩ = some (.int .i64 links1) ∧ W.cell? ⟨w.heap.size, 3, none⟩ = some (.string ⟨text1.toArray⟩) ∧ W.cell? ⟨w.heap.size, 4, none⟩ = some (.slice A1 l1.length c1) ∧ W.cell? ⟨w.heap.size + 1, 0, none⟩ = some (.int .i64 ino2) ∧ W.cell? ⟨w.heap.size + 1, 1, none⟩ = some (.int .i64 kind2) ∧ W.cell? ⟨w.heap.size + 1, 2, none⟩ = some (.int .i64 links2) ∧ W.cell? ⟨w.heap.size + 1, 3, none⟩ = some (.string ⟨text2.toArray⟩) ∧ W.cell? ⟨w.heap.size + 1, 4, none⟩ = some (.slice A2 l2.length c2) ∧ Below w.heap.size w W) W2) := Lib.hid (fun W W2 h hb => ⟨cell_keep hb h.1, cell_keep hb h.2.1, cell_keep hb h.2.2.1, cell_keep hb h.2.2.2.1, cell_keep hb h.2.2.2.2.1, cell_keep hb h.2.2.2.2.2.1, cell_keep hb h.2.2.2.2.2.2.1, cell_keep hb h.2.2.2.2.2.2.2.1, cell_keep hb h.2.2.2.2.2.2.2.2.1, cell_keep hb h.2.2.2.2.2.2.2.2.2.1, below_trans h.2.2.2.2.2.2.2.2.2.2 hb (Below.size h.2.2.2.2.2.2.2.2.2.2)⟩)
        have HSC : Hid (∀ (W : World) (X o : Nat) (u : Value), (fun W => W.cell? ⟨w.heap.size, 0, none⟩ = some (.int .i64 ino1) ∧ W.cell? ⟨w.heap.size, 1, none⟩ = some (.int .i64 kind1) ∧ W.cell? ⟨w.heap.size, 2, none⟩ = some (.int .i64 links1) ∧ W.cell? ⟨w.heap.size, 3, none⟩ = some (.string ⟨text1.toArray⟩) ∧ W.cell? ⟨w.heap.size, 4, none⟩ = some (.slice A1 l1.length c1) ∧ W.cell? ⟨w.heap.size + 1, 0, none⟩ = some (.int .i64 ino2) ∧ W.cell? ⟨w.heap.size + 1, 1, none⟩ = some (.int .i64 kind2) ∧ W.cell? ⟨w.heap.size + 1, 2, none⟩ = some (.int .i64 links2) ∧ W.cell? ⟨w.heap.size + 1, 3, none⟩ = some (.string ⟨text2.toArray⟩) ∧ W.cell? ⟨w.heap.size + 1, 4, none⟩ = some (.slice A2 l2.length c2) ∧ Below w.heap.size w W) W → w.heap.size + 2 ≤ X → (fun W => W.cell? ⟨w.heap.size, 0, none⟩ = some (.int .i64 ino1) ∧ W.cell? ⟨w.heap.size, 1, none⟩ = some (.int .i64 kind1) ∧ W.cell? ⟨w.heap.size, 2, none⟩ = some (.int .i64 links1) ∧ W.cell? ⟨w.heap.size, 3, none⟩ = some (.string ⟨text1.toArray⟩) ∧ W.cell? ⟨w.heap.size, 4, none⟩ = some (.slice A1 l1.length c1) ∧ W.cell? ⟨w.heap.size + 1, 0, none⟩ = some (.int .i64 ino2) ∧ W.cell? ⟨w.heap.size + 1, 1, none⟩ = some (.int .i64 kind2) ∧ W.cell? ⟨w.heap.size + 1, 2, none⟩ = some (.int .i64 links2) ∧ W.cell? ⟨w.heap.size + 1, 3, none⟩ = some (.string ⟨text2.toArray⟩) ∧ W.cell? ⟨w.heap.size + 1, 4, none⟩ = some (.slice A2 l2.length c2) ∧ Below w.heap.size w W) (W.setCell ⟨X, o, none⟩ u)) := Lib.hid (fun W X o u h hx => ⟨(World.cell?_setCell_other _ _ _ _ (by intro hh; (simp at hh) <;> omega)).trans h.1, (World.cell?_setCell_other _ _ _ _ (by intro hh; (simp at hh) <;> omega)).trans h.2.1, (World.cell?_setCell_other _ _ _ _ (by intro hh; (simp at hh) <;> omega)).trans h.2.2.1, (World.cell?_setCell_other _ _ _ _ (by intro hh; (simp at hh) <;> omega)).trans h.2.2.2.1, (World.cell?_setCell_other _ _ _ _ (by intro hh; (simp at hh) <;> omega)).trans h.2.2.2.2.1, (World.cell?_setCell_other _ _ _ _ (by intro hh; (simp at hh) <;> omega)).trans h.2.2.2.2.2.1, (World.cell?_setCell_other _ _ _ _ (by intro hh; (simp at hh) <;> omega)).trans h.2.2.2.2.2.2.1, (World.cell?_setCell_other _ _ _ _ (by intro hh; (simp at hh) <;> omega)).trans h.2.2.2.2.2.2.2.1, (World.cell?_setCell_other _ _ _ _ (by intro hh; (simp at hh) <;> omega)).trans h.2.2.2.2.2.2.2.2.1, (World.cell?_setCell_other _ _ _ _ (by intro hh; (simp at hh) <;> omega)).trans h.2.2.2.2.2.2.2.2.2.1, Below.setCell (p := ⟨X, o, none⟩) h.2.2.2.2.2.2.2.2.2.2 (show w.heap.size ≤ X from by omega) _⟩)
        have HBX := Lib.hid (show w.heap.size + 1 < w.heap.size + 2 from by omega)
        have HSD : Hid (∀ (W : World), (fun W => W.cell? ⟨w.heap.size, 0, none⟩ = some (.int .i64 ino1) ∧ W.cell? ⟨w.heap.size, 1, none⟩ = some (.int .i64 kind1) ∧ W.cell? ⟨w.heap.size, 2, none⟩ = some (.int .i64 links1) ∧ W.cell? ⟨w.heap.size, 3, none⟩ = some (.string ⟨text1.toArray⟩) ∧ W.cell? ⟨w.heap.size, 4, none⟩ = some (.slice A1 l1.length c1) ∧ W.cell? ⟨w.heap.size + 1, 0, none⟩ = some (.int .i64 ino2) ∧ W.cell? ⟨w.heap.size + 1, 1, none⟩ = some (.int .i64 kind2) ∧ W.cell? ⟨w.heap.size + 1, 2, none⟩ = some (.int .i64 links2) ∧ W.cell? ⟨w.heap.size + 1, 3, none⟩ = some (.string ⟨text2.toArray⟩) ∧ W.cell? ⟨w.heap.size + 1, 4, none⟩ = some (.slice A2 l2.length c2) ∧ Below w.heap.size w W) W → (fun W => W.cell? ⟨w.heap.size, 0, none⟩ = some (.int .i64 ino1) ∧ W.cell? ⟨w.heap.size, 1, none⟩ = some (.int .i64 kind1) ∧ W.cell? ⟨w.heap.size, 2, none⟩ = some (.int .i64 links1) ∧ W.cell? ⟨w.heap.size, 3, none⟩ = some (.string ⟨text1.toArray⟩) ∧ W.cell? ⟨w.heap.size, 4, none⟩ = some (.slice A1 l1.length c1) ∧ W.cell? ⟨w.heap.size + 1, 0, none⟩ = some (.int .i64 ino2) ∧ W.cell? ⟨w.heap.size + 1, 1, none⟩ = some (.int .i64 kind2) ∧ W.cell? ⟨w.heap.size + 1, 2, none⟩ = some (.int .i64 links2) ∧ W.cell? ⟨w.heap.size + 1, 3, none⟩ = some (.string ⟨text2.toArray⟩) ∧ W.cell? ⟨w.heap.size + 1, 4, none⟩ = some (.slice A2 l2.length c2) ∧ Below w.heap.size w W) W.drew) := Lib.hid (fun W h => ⟨h.1, h.2.1, h.2.2.1, h.2.2.2.1, h.2.2.2.2.1, h.2.2.2.2.2.1, h.2.2.2.2.2.2.1, h.2.2.2.2.2.2.2.1, h.2.2.2.2.2.2.2.2.1, h.2.2.2.2.2.2.2.2.2.1, below_dn h.2.2.2.2.2.2.2.2.2.2 1⟩)
        go_enter Try.func8, Try.ntmps8
        go_wp2_with fail
        rw [← HW.out]
        refine (law_shown _).mono ?_
        rintro e w1 ⟨rfl, hb1⟩
        have HT11 := Lib.hid (HT01.out.below hb1)
        have HT12 := Lib.hid (HT02.out.below hb1)
        have HB1 := Lib.hid (below_trans HB0.out hb1 HB0.out.size)
        clear hb1
        have e10 : w1.cell? ⟨w.heap.size, 0, none⟩ = some (.int .i64 ino1) := HT11.out.cell 0
        have e11 : w1.cell? ⟨w.heap.size, 1, none⟩ = some (.int .i64 kind1) := HT11.out.cell 1
        have e12 : w1.cell? ⟨w.heap.size, 2, none⟩ = some (.int .i64 links1) := HT11.out.cell 2
        have e13 : w1.cell? ⟨w.heap.size, 3, none⟩ = some (.string ⟨text1.toArray⟩) := HT11.out.cell 3
        have e14 : w1.cell? ⟨w.heap.size, 4, none⟩ = some (.slice A1 l1.length c1) := HT11.out.cell 4
        have e20 : w1.cell? ⟨w.heap.size + 1, 0, none⟩ = some (.int .i64 ino2) := HT12.out.cell 0
        have e21 : w1.cell? ⟨w.heap.size + 1, 1, none⟩ = some (.int .i64 kind2) := HT12.out.cell 1
        have e22 : w1.cell? ⟨w.heap.size + 1, 2, none⟩ = some (.int .i64 links2) := HT12.out.cell 2
        have e23 : w1.cell? ⟨w.heap.size + 1, 3, none⟩ = some (.string ⟨text2.toArray⟩) := HT12.out.cell 3
        have e24 : w1.cell? ⟨w.heap.size + 1, 4, none⟩ = some (.slice A2 l2.length c2) := HT12.out.cell 4
        go_wp2_with fail
        refine (HRN1.out _ HB1.out).mono ?_
        rintro e w2 ⟨rfl, hb2⟩
        have HT21 := Lib.hid (HT11.out.below hb2)
        have HT22 := Lib.hid (HT12.out.below hb2)
        have HB2 := Lib.hid (below_trans HB1.out hb2 HB1.out.size)
        clear hb2 e10 e11 e12 e13 e14 e20 e21 e22 e23 e24
        have e10 : w2.cell? ⟨w.heap.size, 0, none⟩ = some (.int .i64 ino1) := HT21.out.cell 0
        have e11 : w2.cell? ⟨w.heap.size, 1, none⟩ = some (.int .i64 kind1) := HT21.out.cell 1
        have e12 : w2.cell? ⟨w.heap.size, 2, none⟩ = some (.int .i64 links1) := HT21.out.cell 2
        have e13 : w2.cell? ⟨w.heap.size, 3, none⟩ = some (.string ⟨text1.toArray⟩) := HT21.out.cell 3
        have e14 : w2.cell? ⟨w.heap.size, 4, none⟩ = some (.slice A1 l1.length c1) := HT21.out.cell 4
        have e20 : w2.cell? ⟨w.heap.size + 1, 0, none⟩ = some (.int .i64 ino2) := HT22.out.cell 0
        have e21 : w2.cell? ⟨w.heap.size + 1, 1, none⟩ = some (.int .i64 kind2) := HT22.out.cell 1
        have e22 : w2.cell? ⟨w.heap.size + 1, 2, none⟩ = some (.int .i64 links2) := HT22.out.cell 2
        have e23 : w2.cell? ⟨w.heap.size + 1, 3, none⟩ = some (.string ⟨text2.toArray⟩) := HT22.out.cell 3
        have e24 : w2.cell? ⟨w.heap.size + 1, 4, none⟩ = some (.slice A2 l2.length c2) := HT22.out.cell 4
        go_wp2_with fail
        refine (HRN2.out _ HB2.out).mono ?_
        rintro e w3 ⟨rfl, hb3⟩
        have HT31 := Lib.hid (HT21.out.below hb3)
        have HT32 := Lib.hid (HT22.out.below hb3)
        have HB3 := Lib.hid (below_trans HB2.out hb3 HB2.out.size)
        clear hb3 e10 e11 e12 e13 e14 e20 e21 e22 e23 e24
        have e10 : w3.cell? ⟨w.heap.size, 0, none⟩ = some (.int .i64 ino1) := HT31.out.cell 0
        have e11 : w3.cell? ⟨w.heap.size, 1, none⟩ = some (.int .i64 kind1) := HT31.out.cell 1
        have e12 : w3.cell? ⟨w.heap.size, 2, none⟩ = some (.int .i64 links1) := HT31.out.cell 2
        have e13 : w3.cell? ⟨w.heap.size, 3, none⟩ = some (.string ⟨text1.toArray⟩) := HT31.out.cell 3
        have e14 : w3.cell? ⟨w.heap.size, 4, none⟩ = some (.slice A1 l1.length c1) := HT31.out.cell 4
        have e20 : w3.cell? ⟨w.heap.size + 1, 0, none⟩ = some (.int .i64 ino2) := HT32.out.cell 0
        have e21 : w3.cell? ⟨w.heap.size + 1, 1, none⟩ = some (.int .i64 kind2) := HT32.out.cell 1
        have e22 : w3.cell? ⟨w.heap.size + 1, 2, none⟩ = some (.int .i64 links2) := HT32.out.cell 2
        have e23 : w3.cell? ⟨w.heap.size + 1, 3, none⟩ = some (.string ⟨text2.toArray⟩) := HT32.out.cell 3
        have e24 : w3.cell? ⟨w.heap.size + 1, 4, none⟩ = some (.slice A2 l2.length c2) := HT32.out.cell 4
        go_wp2_with fail
        refine wp_region_held_drew (S := fun W => W.cell? ⟨w.heap.size, 0, none⟩ = some (.int .i64 ino1) ∧ W.cell? ⟨w.heap.size, 1, none⟩ = some (.int .i64 kind1) ∧ W.cell? ⟨w.heap.size, 2, none⟩ = some (.int .i64 links1) ∧ W.cell? ⟨w.heap.size, 3, none⟩ = some (.string ⟨text1.toArray⟩) ∧ W.cell? ⟨w.heap.size, 4, none⟩ = some (.slice A1 l1.length c1) ∧ W.cell? ⟨w.heap.size + 1, 0, none⟩ = some (.int .i64 ino2) ∧ W.cell? ⟨w.heap.size + 1, 1, none⟩ = some (.int .i64 kind2) ∧ W.cell? ⟨w.heap.size + 1, 2, none⟩ = some (.int .i64 links2) ∧ W.cell? ⟨w.heap.size + 1, 3, none⟩ = some (.string ⟨text2.toArray⟩) ∧ W.cell? ⟨w.heap.size + 1, 4, none⟩ = some (.slice A2 l2.length c2) ∧ Below w.heap.size w W) (by kernel_rfl) (HSD.out _ ⟨e10, e11, e12, e13, e14, e20, e21, e22, e23, e24, HB3.out⟩) (fun hHeld => ?_)
        refine wpAnyH_take (i := 0) (v := ?_) rfl (by kernel_rfl) (by kernel_rfl) (by kernel_rfl) (fun _ _ _ h => h) (Or.inl ⟨by rfl, ?_⟩) (by assumption) ?_
        rotate_left
        · intro w hSw
          try dsimp only at hSw
          go_simp
          try with_reducible rfl
        rotate_left
        try simp only [Act.put, List.setIfInBounds_toArray, List.set_cons_zero, List.set_cons_succ, List.getElem_toArray, List.getElem_cons_zero, List.getElem_cons_succ]
        refine wpAnyH_take (i := 2) (v := ?_) rfl (by kernel_rfl) (by kernel_rfl) (by kernel_rfl) (fun _ _ _ h => h) (Or.inl ⟨by rfl, ?_⟩) (by assumption) ?_
        rotate_left
        · intro w hSw
          try dsimp only at hSw
          go_simp
          try with_reducible rfl
        rotate_left
        try simp only [Act.put, List.setIfInBounds_toArray, List.set_cons_zero, List.set_cons_succ, List.getElem_toArray, List.getElem_cons_zero, List.getElem_cons_succ]
        refine wpAnyH_ready (rs := [1, 10]) (by kernel_rfl) (by simp) ?_
        refine (AllReadyH.cons rfl (fun K hK => ?_) (AllReadyH.cons rfl (fun K hK => ?_) AllReadyH.nil))
        · rw [if_pos (by rfl)]
          go_wp2_with fail
          refine (HTX1.out _ (hHeld.2.2.2.2.2.2.2.2.2.2)).mono ?_
          rintro e w7 ⟨rfl, hb7⟩
          replace hHeld := HSB.out _ _ hHeld hb7
          clear hb7
          refine hK.out _ _ hHeld (fun _ => ?_)
          clear hK K
          try simp only [Act.put, List.setIfInBounds_toArray, List.set_cons_zero, List.set_cons_succ, List.getElem_toArray, List.getElem_cons_zero, List.getElem_cons_succ]
          refine wpAnyH_ready (rs := [3, 10]) (by kernel_rfl) (by simp) ?_
          refine (AllReadyH.cons rfl (fun K hK => ?_) (AllReadyH.cons rfl (fun K hK => ?_) AllReadyH.nil))
          · rw [if_pos (by rfl)]
            go_wp2_with fail
            refine (HTX2.out _ (hHeld.2.2.2.2.2.2.2.2.2.2)).mono ?_
            rintro e w7 ⟨rfl, hb7⟩
            replace hHeld := HSB.out _ _ hHeld hb7
            clear hb7
            refine hK.out _ _ hHeld (fun _ => ?_)
            clear hK K
            try simp only [Act.put, List.setIfInBounds_toArray, List.set_cons_zero, List.set_cons_succ, List.getElem_toArray, List.getElem_cons_zero, List.getElem_cons_succ]
            refine wpAnyH_take (i := 4) (v := ?_) rfl (by kernel_rfl) (by kernel_rfl) (by kernel_rfl) (fun _ _ _ h => h) (Or.inl ⟨by rfl, ?_⟩) (by assumption) ?_
            rotate_left
            · intro w hSw
              try dsimp only at hSw
              go_simp
              try with_reducible rfl
            rotate_left
            try simp only [Act.put, List.setIfInBounds_toArray, List.set_cons_zero, List.set_cons_succ, List.getElem_toArray, List.getElem_cons_zero, List.getElem_cons_succ]
            refine wpAnyH_ready (rs := [5, 10]) (by kernel_rfl) (by simp) ?_
            refine (AllReadyH.cons rfl (fun K hK => ?_) (AllReadyH.cons rfl (fun K hK => ?_) AllReadyH.nil))
            · rw [if_pos (by rfl)]
              go_wp2_with fail
              refine (HTK1.out _).mono ?_
              rintro e w7 ⟨v7, rfl, ⟨A7, c7, rfl, hE7⟩, hb7, hat7⟩
              replace hHeld := HSB.out _ _ hHeld hb7
              simp only at hE7 ⊢
              have hAT := hat7 _ _ _ _ _ _ _ rfl
              simp only at hAT
              have HE7 := Lib.hid (And.intro hE7 hAT)
              clear hb7 hE7 hat7 hAT
              refine hK.out _ _ hHeld (fun _ => ?_)
              clear hK K
              try simp only [Act.put, List.setIfInBounds_toArray, List.set_cons_zero, List.set_cons_succ, List.getElem_toArray, List.getElem_cons_zero, List.getElem_cons_succ]
              refine wpAnyH_take (i := 6) (v := ?_) rfl (by kernel_rfl) (by kernel_rfl) (by kernel_rfl) (fun _ _ _ h => h) (Or.inl ⟨by rfl, ?_⟩) (by assumption) ?_
              rotate_left
              · intro w hSw
                try dsimp only at hSw
                go_simp
                try with_reducible rfl
              rotate_left
              try simp only [Act.put, List.setIfInBounds_toArray, List.set_cons_zero, List.set_cons_succ, List.getElem_toArray, List.getElem_cons_zero, List.getElem_cons_succ]
              refine wpAnyH_take (i := 7) (v := ?_) rfl (by kernel_rfl) (by kernel_rfl) (by kernel_rfl) (fun _ _ _ h => h) (Or.inl ⟨by rfl, ?_⟩) (by assumption) ?_
              rotate_left
              · intro w hSw
                try dsimp only at hSw
                go_simp
                try with_reducible rfl
              rotate_left
              try simp only [Act.put, List.setIfInBounds_toArray, List.set_cons_zero, List.set_cons_succ, List.getElem_toArray, List.getElem_cons_zero, List.getElem_cons_succ]
              refine wpAnyH_take (i := 8) (v := ?_) rfl (by kernel_rfl) (by kernel_rfl) (by kernel_rfl) (fun _ _ _ h => h) (Or.inl ⟨by rfl, ?_⟩) (by assumption) ?_
              rotate_left
              · intro w hSw
                try dsimp only at hSw
                go_simp
                try with_reducible rfl
              rotate_left
              try simp only [Act.put, List.setIfInBounds_toArray, List.set_cons_zero, List.set_cons_succ, List.getElem_toArray, List.getElem_cons_zero, List.getElem_cons_succ]
              refine wpAnyH_take (i := 9) (v := ?_) rfl (by kernel_rfl) (by kernel_rfl) (by kernel_rfl) (fun _ _ _ h => h) (Or.inl ⟨by rfl, ?_⟩) (by assumption) ?_
              rotate_left
              · intro w hSw
                try dsimp only at hSw
                go_simp
                try with_reducible rfl
              rotate_left
              try simp only [Act.put, List.setIfInBounds_toArray, List.set_cons_zero, List.set_cons_succ, List.getElem_toArray, List.getElem_cons_zero, List.getElem_cons_succ]
              refine wpAnyH_ready (rs := [10]) (by kernel_rfl) (by simp) ?_
              refine (AllReadyH.cons rfl (fun K hK => ?_) AllReadyH.nil)
              have HH7 := Lib.hid hHeld
              rw [if_pos (by rfl)]
              go_wp2_with fail
              refine hK.out _ _ (HSA.out _ _ HH7.out) (fun hHeld => ?_)
              clear hK K
              try simp only [Act.put, List.setIfInBounds_toArray, List.set_cons_zero, List.set_cons_succ, List.getElem_toArray, List.getElem_cons_zero, List.getElem_cons_succ]
              refine wpAnyH_ready (rs := [11]) (by kernel_rfl) (by simp) ?_
              refine (AllReadyH.cons rfl (fun K hK => ?_) AllReadyH.nil)
              rw [if_pos (by rfl)]
              go_wp2_with fail
              refine hK.out _ _ (HSA.out _ _ HH7.out) (fun hHeld => ?_)
              clear hK K
              try simp only [Act.put, List.setIfInBounds_toArray, List.set_cons_zero, List.set_cons_succ, List.getElem_toArray, List.getElem_cons_zero, List.getElem_cons_succ]
              refine wpAnyH_take (i := 12) (v := ?_) rfl (by kernel_rfl) (by kernel_rfl) (by kernel_rfl) (fun _ _ _ h => h) (Or.inl ⟨by rfl, ?_⟩) (by assumption) ?_
              rotate_left
              · intro w hSw
                try dsimp only at hSw
                go_simp
                try with_reducible rfl
              rotate_left
              try simp only [Act.put, List.setIfInBounds_toArray, List.set_cons_zero, List.set_cons_succ, List.getElem_toArray, List.getElem_cons_zero, List.getElem_cons_succ]
              refine wpAnyH_take (i := 13) (v := ?_) rfl (by kernel_rfl) (by kernel_rfl) (by kernel_rfl) (fun _ _ _ h => h) (Or.inl ⟨by rfl, ?_⟩) (by assumption) ?_
              rotate_left
              · intro w hSw
                try dsimp only at hSw
                go_simp
                try with_reducible rfl
              rotate_left
              try simp only [Act.put, List.setIfInBounds_toArray, List.set_cons_zero, List.set_cons_succ, List.getElem_toArray, List.getElem_cons_zero, List.getElem_cons_succ]
              refine wpAnyH_done (by kernel_rfl) ?_ _
              obtain ⟨W8, hW8⟩ : ∃ W8, W8 = w7.alloc (.cells #[.int .i64 ino1, .int .i64 kind1, .int .i64 links1, .string ⟨text1.toArray⟩, .slice A7 l1.length c7] 24) := ⟨_, rfl⟩
              obtain ⟨X, hX⟩ : ∃ X, X = w7.heap.size := ⟨_, rfl⟩
              rw [← hW8]
              try rw [← hX]
              have b78 : Below w7.heap.size w7 W8 := by rw [hW8]; exact (Below.refl _ _).alloc (Nat.le_refl _) _
              have HT8 := Lib.hid (show TBox W8 X 24 #[.int .i64 ino1, .int .i64 kind1, .int .i64 links1, .string ⟨text1.toArray⟩, .slice A7 l1.length c7] from by rw [hW8, hX]; exact TBox.new _ _ _)
              have HH8 := Lib.hid (HSB.out _ _ HH7.out b78)
              have HE8 := Lib.hid (HE7.out.1.below b78)
              clear hW8 b78 hX
              clear hHeld e10 e11 e12 e13 e14 e20 e21 e22 e23 e24
              go_wp2_with fail
              refine (HTK2.out W8).mono ?_
              rintro e w9 ⟨v9, rfl, ⟨A9, c9, rfl, hE9⟩, hb9⟩
              simp only at hE9 ⊢
              have HT9 := Lib.hid (HT8.out.below hb9)
              have HH9 := Lib.hid (HSB.out _ _ HH8.out hb9)
              obtain ⟨W10, hW10⟩ : ∃ W10, W10 = w9.alloc (.cells #[.int .i64 ino2, .int .i64 kind2, .int .i64 links2, .string ⟨text2.toArray⟩, .slice A9 l2.length c9] 24) := ⟨_, rfl⟩
              have b910 : Below w9.heap.size w9 W10 := by rw [hW10]; exact (Below.refl _ _).alloc (Nat.le_refl _) _
              have HT10 := Lib.hid (show TBox W10 w9.heap.size 24 #[.int .i64 ino2, .int .i64 kind2, .int .i64 links2, .string ⟨text2.toArray⟩, .slice A9 l2.length c9] from by rw [hW10]; exact TBox.new _ _ _)
              have HT8' := Lib.hid (HT9.out.below b910)
              have HH10 := Lib.hid (HSB.out _ _ HH9.out b910)
              have HR1 := Lib.hid (ref07_Same ⟨ino1, kind1, links1, text1, l1⟩ ⟨ino1, kind1, links1, text1, l1⟩ _ _ W10 ⟨A7, c7, rfl, (HE8.out.below hb9).below b910⟩ (HNV1.out W10 (HH10.out.2.2.2.2.2.2.2.2.2.2)) HO1.out HO1.out (by simp only; omega) (by simp only; omega))
              have HR2 := Lib.hid (fun W (h : Below W10.heap.size W10 W) => ref07_Same ⟨ino2, kind2, links2, text2, l2⟩ ⟨ino2, kind2, links2, text2, l2⟩ _ _ W ⟨A9, c9, rfl, (hE9.below b910).below h⟩ (HNV2.out W (below_trans (HH10.out.2.2.2.2.2.2.2.2.2.2) h (Below.size (HH10.out.2.2.2.2.2.2.2.2.2.2)))) HO2.out HO2.out (by simp only; omega) (by simp only; omega))
              rw [sameN_self] at HR1 HR2
              have HW10 := Lib.hid hW10
              have hs10 : W10.heap.size = w9.heap.size + 1 := by rw [hW10]; simp
              have e10 : w9.cell? ⟨w.heap.size, 0, none⟩ = some (.int .i64 ino1) := (HH9.out).1
              have e11 : w9.cell? ⟨w.heap.size, 1, none⟩ = some (.int .i64 kind1) := (HH9.out).2.1
              have e12 : w9.cell? ⟨w.heap.size, 2, none⟩ = some (.int .i64 links1) := (HH9.out).2.2.1
              have e13 : w9.cell? ⟨w.heap.size, 3, none⟩ = some (.string ⟨text1.toArray⟩) := (HH9.out).2.2.2.1
              have e14 : w9.cell? ⟨w.heap.size, 4, none⟩ = some (.slice A1 l1.length c1) := (HH9.out).2.2.2.2.1
              have e20 : w9.cell? ⟨w.heap.size + 1, 0, none⟩ = some (.int .i64 ino2) := (HH9.out).2.2.2.2.2.1
              have e21 : w9.cell? ⟨w.heap.size + 1, 1, none⟩ = some (.int .i64 kind2) := (HH9.out).2.2.2.2.2.2.1
              have e22 : w9.cell? ⟨w.heap.size + 1, 2, none⟩ = some (.int .i64 links2) := (HH9.out).2.2.2.2.2.2.2.1
              have e23 : w9.cell? ⟨w.heap.size + 1, 3, none⟩ = some (.string ⟨text2.toArray⟩) := (HH9.out).2.2.2.2.2.2.2.2.1
              have e24 : w9.cell? ⟨w.heap.size + 1, 4, none⟩ = some (.slice A2 l2.length c2) := (HH9.out).2.2.2.2.2.2.2.2.2.1
              have x0 : w9.cell? ⟨X, 0, none⟩ = some (.int .i64 ino1) := HT9.out.cell 0
              have x1 : w9.cell? ⟨X, 1, none⟩ = some (.int .i64 kind1) := HT9.out.cell 1
              have x2 : w9.cell? ⟨X, 2, none⟩ = some (.int .i64 links1) := HT9.out.cell 2
              have x3 : w9.cell? ⟨X, 3, none⟩ = some (.string ⟨text1.toArray⟩) := HT9.out.cell 3
              have x4 : w9.cell? ⟨X, 4, none⟩ = some (.slice A7 l1.length c7) := HT9.out.cell 4
              have hs9 := HT9.out.lt
              have hs90 := cell_lt e10
              have hs91 := cell_lt e20
              clear hE9 hb9 hW10 b910 hs10
              go_wp2_with fail
              rw [← HW10.out]
              refine HR1.out.mono ?_
              rintro e w11 ⟨rfl, hb11⟩
              have HT11 := Lib.hid (HT8'.out.below hb11)
              have HT12 := Lib.hid (HT10.out.below hb11)
              have HH11 := Lib.hid (HSB.out _ _ HH10.out hb11)
              have HB1011 := Lib.hid hb11
              clear hb11 e10 e11 e12 e13 e14 e20 e21 e22 e23 e24 x0 x1 x2 x3 x4 hs9 hs90 hs91
              have e10 : w11.cell? ⟨w.heap.size, 0, none⟩ = some (.int .i64 ino1) := HH11.out.1
              have e11 : w11.cell? ⟨w.heap.size, 1, none⟩ = some (.int .i64 kind1) := HH11.out.2.1
              have e12 : w11.cell? ⟨w.heap.size, 2, none⟩ = some (.int .i64 links1) := HH11.out.2.2.1
              have e13 : w11.cell? ⟨w.heap.size, 3, none⟩ = some (.string ⟨text1.toArray⟩) := HH11.out.2.2.2.1
              have e14 : w11.cell? ⟨w.heap.size, 4, none⟩ = some (.slice A1 l1.length c1) := HH11.out.2.2.2.2.1
              have e20 : w11.cell? ⟨w.heap.size + 1, 0, none⟩ = some (.int .i64 ino2) := HH11.out.2.2.2.2.2.1
              have e21 : w11.cell? ⟨w.heap.size + 1, 1, none⟩ = some (.int .i64 kind2) := HH11.out.2.2.2.2.2.2.1
              have e22 : w11.cell? ⟨w.heap.size + 1, 2, none⟩ = some (.int .i64 links2) := HH11.out.2.2.2.2.2.2.2.1
              have e23 : w11.cell? ⟨w.heap.size + 1, 3, none⟩ = some (.string ⟨text2.toArray⟩) := HH11.out.2.2.2.2.2.2.2.2.1
              have e24 : w11.cell? ⟨w.heap.size + 1, 4, none⟩ = some (.slice A2 l2.length c2) := HH11.out.2.2.2.2.2.2.2.2.2.1
              have x0 : w11.cell? ⟨X, 0, none⟩ = some (.int .i64 ino1) := HT11.out.cell 0
              have x1 : w11.cell? ⟨X, 1, none⟩ = some (.int .i64 kind1) := HT11.out.cell 1
              have x2 : w11.cell? ⟨X, 2, none⟩ = some (.int .i64 links1) := HT11.out.cell 2
              have x3 : w11.cell? ⟨X, 3, none⟩ = some (.string ⟨text1.toArray⟩) := HT11.out.cell 3
              have x4 : w11.cell? ⟨X, 4, none⟩ = some (.slice A7 l1.length c7) := HT11.out.cell 4
              have y0 : w11.cell? ⟨w9.heap.size, 0, none⟩ = some (.int .i64 ino2) := HT12.out.cell 0
              have y1 : w11.cell? ⟨w9.heap.size, 1, none⟩ = some (.int .i64 kind2) := HT12.out.cell 1
              have y2 : w11.cell? ⟨w9.heap.size, 2, none⟩ = some (.int .i64 links2) := HT12.out.cell 2
              have y3 : w11.cell? ⟨w9.heap.size, 3, none⟩ = some (.string ⟨text2.toArray⟩) := HT12.out.cell 3
              have y4 : w11.cell? ⟨w9.heap.size, 4, none⟩ = some (.slice A9 l2.length c9) := HT12.out.cell 4
              go_wp2_with fail
              refine (HR2.out w11 HB1011.out).mono ?_
              rintro e w12 ⟨rfl, hb12⟩
              have HB12 := Lib.hid (below_trans (HH11.out.2.2.2.2.2.2.2.2.2.2) hb12 (Below.size (HH11.out.2.2.2.2.2.2.2.2.2.2)))
              clear hb12 e10 e11 e12 e13 e14 e20 e21 e22 e23 e24 x0 x1 x2 x3 x4 y0 y1 y2 y3 y4
              go_wp2_with fail
              go_ret
              exact ⟨rfl, HB12.out⟩
            · rw [if_pos (by rfl)]
              go_wp2_with fail
              obtain ⟨V, hV⟩ : ∃ V, V = w7.alloc (.cells #[.int .i64 0, .int .i64 0, .int .i64 0, .string ⟨#[]⟩, .slice none 0 0] 24) := ⟨_, rfl⟩
              obtain ⟨X, hX⟩ : ∃ X, X = w7.heap.size := ⟨_, rfl⟩
              rw [← hV]
              try rw [← hX]
              have HTXB := Lib.hid (show TBox V X 24 #[.int .i64 0, .int .i64 0, .int .i64 0, .string ⟨#[]⟩, .slice none 0 0] from by rw [hV, hX]; exact TBox.new (w7) _ _)
              have HX2 := Lib.hid (show w.heap.size + 2 ≤ X from by
                have h1 := cell_lt (hHeld.2.2.2.2.2.1)
                have h0 := HBX.out
                have h2 := Below.size (hHeld.2.2.2.2.2.2.2.2.2.2)
                rw [hX]
                simp at h1 ⊢
                omega)
              replace hHeld : (fun W => W.cell? ⟨w.heap.size, 0, none⟩ = some (.int .i64 ino1) ∧ W.cell? ⟨w.heap.size, 1, none⟩ = some (.int .i64 kind1) ∧ W.cell? ⟨w.heap.size, 2, none⟩ = some (.int .i64 links1) ∧ W.cell? ⟨w.heap.size, 3, none⟩ = some (.string ⟨text1.toArray⟩) ∧ W.cell? ⟨w.heap.size, 4, none⟩ = some (.slice A1 l1.length c1) ∧ W.cell? ⟨w.heap.size + 1, 0, none⟩ = some (.int .i64 ino2) ∧ W.cell? ⟨w.heap.size + 1, 1, none⟩ = some (.int .i64 kind2) ∧ W.cell? ⟨w.heap.size + 1, 2, none⟩ = some (.int .i64 links2) ∧ W.cell? ⟨w.heap.size + 1, 3, none⟩ = some (.string ⟨text2.toArray⟩) ∧ W.cell? ⟨w.heap.size + 1, 4, none⟩ = some (.slice A2 l2.length c2) ∧ Below w.heap.size w W) V := by rw [hV]; exact HSA.out (w7) (.cells #[.int .i64 0, .int .i64 0, .int .i64 0, .string ⟨#[]⟩, .slice none 0 0] 24) hHeld
              clear hV hX
              refine hK.out _ _ hHeld (fun _ => ?_)
              clear hK K
              try simp only [Act.put, List.setIfInBounds_toArray, List.set_cons_zero, List.set_cons_succ, List.getElem_toArray, List.getElem_cons_zero, List.getElem_cons_succ]
              refine wpAnyH_ready (rs := [5]) (by kernel_rfl) (by simp) ?_
              refine (AllReadyH.cons rfl (fun K hK => ?_) AllReadyH.nil)
              rw [if_pos (by rfl)]
              go_wp2_with fail
              refine (HTK1.out _).mono ?_
              rintro e w7 ⟨v7, rfl, ⟨A7, c7, rfl, hE7⟩, hb7, hat7⟩
              replace hHeld := HSB.out _ _ hHeld hb7
              have HXLT := Lib.hid HTXB.out.lt
              have HTXB := Lib.hid (HTXB.out.below hb7)
              simp only at hE7 ⊢
              have hAT := hat7 _ _ _ _ _ _ _ rfl
              simp only at hAT
              have HE7 := Lib.hid (And.intro hE7 hAT)
              clear hb7 hE7 hat7 hAT
              refine hK.out _ _ hHeld (fun _ => ?_)
              clear hK K
              try simp only [Act.put, List.setIfInBounds_toArray, List.set_cons_zero, List.set_cons_succ, List.getElem_toArray, List.getElem_cons_zero, List.getElem_cons_succ]
              refine wpAnyH_take (i := 6) (v := ?_) rfl (by kernel_rfl) (by kernel_rfl) (by kernel_rfl) (fun _ _ _ h => h) (Or.inl ⟨by rfl, ?_⟩) (by assumption) ?_
              rotate_left
              · intro w hSw
                try dsimp only at hSw
                go_simp
                try with_reducible rfl
              rotate_left
              try simp only [Act.put, List.setIfInBounds_toArray, List.set_cons_zero, List.set_cons_succ, List.getElem_toArray, List.getElem_cons_zero, List.getElem_cons_succ]
              refine wpAnyH_take (i := 7) (v := ?_) rfl (by kernel_rfl) (by kernel_rfl) (by kernel_rfl) (fun _ _ _ h => h) (Or.inl ⟨by rfl, ?_⟩) (by assumption) ?_
              rotate_left
              · intro w hSw
                try dsimp only at hSw
                go_simp
                try with_reducible rfl
              rotate_left
              try simp only [Act.put, List.setIfInBounds_toArray, List.set_cons_zero, List.set_cons_succ, List.getElem_toArray, List.getElem_cons_zero, List.getElem_cons_succ]
              refine wpAnyH_take (i := 8) (v := ?_) rfl (by kernel_rfl) (by kernel_rfl) (by kernel_rfl) (fun _ _ _ h => h) (Or.inl ⟨by rfl, ?_⟩) (by assumption) ?_
              rotate_left
              · intro w hSw
                try dsimp only at hSw
                go_simp
                try with_reducible rfl
              rotate_left
              try simp only [Act.put, List.setIfInBounds_toArray, List.set_cons_zero, List.set_cons_succ, List.getElem_toArray, List.getElem_cons_zero, List.getElem_cons_succ]
              refine wpAnyH_take (i := 9) (v := ?_) rfl (by kernel_rfl) (by kernel_rfl) (by kernel_rfl) (fun _ _ _ h => h) (Or.inl ⟨by rfl, ?_⟩) (by assumption) ?_
              rotate_left
              · intro w hSw
                try dsimp only at hSw
                go_simp
                try with_reducible rfl
              rotate_left
              try simp only [Act.put, List.setIfInBounds_toArray, List.set_cons_zero, List.set_cons_succ, List.getElem_toArray, List.getElem_cons_zero, List.getElem_cons_succ]
              refine wpAnyH_ready (rs := [11]) (by kernel_rfl) (by simp) ?_
              refine (AllReadyH.cons rfl (fun K hK => ?_) AllReadyH.nil)
              have p0 : w7.cell? ⟨X, 0, none⟩ = some (.int .i64 0) := HTXB.out.cell 0
              have p1 : w7.cell? ⟨X, 1, none⟩ = some (.int .i64 0) := HTXB.out.cell 1
              have p2 : w7.cell? ⟨X, 2, none⟩ = some (.int .i64 0) := HTXB.out.cell 2
              have p3 : w7.cell? ⟨X, 3, none⟩ = some (.string ⟨#[]⟩) := HTXB.out.cell 3
              have p4 : w7.cell? ⟨X, 4, none⟩ = some (.slice none 0 0) := HTXB.out.cell 4
              have f0 := HTXB.out.free 0
              have f1 := HTXB.out.free 1
              have f2 := HTXB.out.free 2
              have f3 := HTXB.out.free 3
              have f4 := HTXB.out.free 4
              have HH7 := Lib.hid hHeld
              rw [if_pos (by rfl)]
              go_wp2_with fail
              obtain ⟨W8, hW8⟩ : ∃ W8, W8 = ((((w7.setCell ⟨X, 0, none⟩ (.int .i64 ino1)).setCell ⟨X, 1, none⟩ (.int .i64 kind1)).setCell ⟨X, 2, none⟩ (.int .i64 links1)).setCell ⟨X, 3, none⟩ (.string ⟨text1.toArray⟩)).setCell ⟨X, 4, none⟩ (.slice A7 l1.length c7) := ⟨_, rfl⟩
              rw [← hW8]
              have HH8 := Lib.hid (show (fun W => W.cell? ⟨w.heap.size, 0, none⟩ = some (.int .i64 ino1) ∧ W.cell? ⟨w.heap.size, 1, none⟩ = some (.int .i64 kind1) ∧ W.cell? ⟨w.heap.size, 2, none⟩ = some (.int .i64 links1) ∧ W.cell? ⟨w.heap.size, 3, none⟩ = some (.string ⟨text1.toArray⟩) ∧ W.cell? ⟨w.heap.size, 4, none⟩ = some (.slice A1 l1.length c1) ∧ W.cell? ⟨w.heap.size + 1, 0, none⟩ = some (.int .i64 ino2) ∧ W.cell? ⟨w.heap.size + 1, 1, none⟩ = some (.int .i64 kind2) ∧ W.cell? ⟨w.heap.size + 1, 2, none⟩ = some (.int .i64 links2) ∧ W.cell? ⟨w.heap.size + 1, 3, none⟩ = some (.string ⟨text2.toArray⟩) ∧ W.cell? ⟨w.heap.size + 1, 4, none⟩ = some (.slice A2 l2.length c2) ∧ Below w.heap.size w W) W8 from by rw [hW8]; exact HSC.out _ _ _ _ (HSC.out _ _ _ _ (HSC.out _ _ _ _ (HSC.out _ _ _ _ (HSC.out _ _ _ _ HH7.out HX2.out) HX2.out) HX2.out) HX2.out) HX2.out)
              have HT8 := Lib.hid (show TBox W8 X 24 #[.int .i64 ino1, .int .i64 kind1, .int .i64 links1, .string ⟨text1.toArray⟩, .slice A7 l1.length c7] from by rw [hW8]; exact ((((HTXB.out.set 0 _).set 1 _).set 2 _).set 3 _).set 4 _)
              have HE8 := Lib.hid (show Ents W8 (.slice A7 l1.length c7) l1 from by
                rw [hW8]
                have hx := HXLT.out
                exact Sl.frame HE7.out.1 HE7.out.2 (fun b hb _ => by
                  have hne : b ≠ X := by omega
                  rw [heap_setCell_far _ _ _ _ hne, heap_setCell_far _ _ _ _ hne, heap_setCell_far _ _ _ _ hne, heap_setCell_far _ _ _ _ hne, heap_setCell_far _ _ _ _ hne]) (by simp))
              clear hW8 p0 p1 p2 p3 p4 f0 f1 f2 f3 f4
              refine hK.out _ _ HH8.out (fun hHeld => ?_)
              clear hK K
              try simp only [Act.put, List.setIfInBounds_toArray, List.set_cons_zero, List.set_cons_succ, List.getElem_toArray, List.getElem_cons_zero, List.getElem_cons_succ]
              refine wpAnyH_take (i := 12) (v := ?_) rfl (by kernel_rfl) (by kernel_rfl) (by kernel_rfl) (fun _ _ _ h => h) (Or.inl ⟨by rfl, ?_⟩) (by assumption) ?_
              rotate_left
              · intro w hSw
                try dsimp only at hSw
                go_simp
                try with_reducible rfl
              rotate_left
              try simp only [Act.put, List.setIfInBounds_toArray, List.set_cons_zero, List.set_cons_succ, List.getElem_toArray, List.getElem_cons_zero, List.getElem_cons_succ]
              refine wpAnyH_take (i := 13) (v := ?_) rfl (by kernel_rfl) (by kernel_rfl) (by kernel_rfl) (fun _ _ _ h => h) (Or.inl ⟨by rfl, ?_⟩) (by assumption) ?_
              rotate_left
              · intro w hSw
                try dsimp only at hSw
                go_simp
                try with_reducible rfl
              rotate_left
              try simp only [Act.put, List.setIfInBounds_toArray, List.set_cons_zero, List.set_cons_succ, List.getElem_toArray, List.getElem_cons_zero, List.getElem_cons_succ]
              refine wpAnyH_done (by kernel_rfl) ?_ _
              clear hHeld e10 e11 e12 e13 e14 e20 e21 e22 e23 e24
              go_wp2_with fail
              refine (HTK2.out W8).mono ?_
              rintro e w9 ⟨v9, rfl, ⟨A9, c9, rfl, hE9⟩, hb9⟩
              simp only at hE9 ⊢
              have HT9 := Lib.hid (HT8.out.below hb9)
              have HH9 := Lib.hid (HSB.out _ _ HH8.out hb9)
              obtain ⟨W10, hW10⟩ : ∃ W10, W10 = w9.alloc (.cells #[.int .i64 ino2, .int .i64 kind2, .int .i64 links2, .string ⟨text2.toArray⟩, .slice A9 l2.length c9] 24) := ⟨_, rfl⟩
              have b910 : Below w9.heap.size w9 W10 := by rw [hW10]; exact (Below.refl _ _).alloc (Nat.le_refl _) _
              have HT10 := Lib.hid (show TBox W10 w9.heap.size 24 #[.int .i64 ino2, .int .i64 kind2, .int .i64 links2, .string ⟨text2.toArray⟩, .slice A9 l2.length c9] from by rw [hW10]; exact TBox.new _ _ _)
              have HT8' := Lib.hid (HT9.out.below b910)
              have HH10 := Lib.hid (HSB.out _ _ HH9.out b910)
              have HR1 := Lib.hid (ref07_Same ⟨ino1, kind1, links1, text1, l1⟩ ⟨ino1, kind1, links1, text1, l1⟩ _ _ W10 ⟨A7, c7, rfl, (HE8.out.below hb9).below b910⟩ (HNV1.out W10 (HH10.out.2.2.2.2.2.2.2.2.2.2)) HO1.out HO1.out (by simp only; omega) (by simp only; omega))
              have HR2 := Lib.hid (fun W (h : Below W10.heap.size W10 W) => ref07_Same ⟨ino2, kind2, links2, text2, l2⟩ ⟨ino2, kind2, links2, text2, l2⟩ _ _ W ⟨A9, c9, rfl, (hE9.below b910).below h⟩ (HNV2.out W (below_trans (HH10.out.2.2.2.2.2.2.2.2.2.2) h (Below.size (HH10.out.2.2.2.2.2.2.2.2.2.2)))) HO2.out HO2.out (by simp only; omega) (by simp only; omega))
              rw [sameN_self] at HR1 HR2
              have HW10 := Lib.hid hW10
              have hs10 : W10.heap.size = w9.heap.size + 1 := by rw [hW10]; simp
              have e10 : w9.cell? ⟨w.heap.size, 0, none⟩ = some (.int .i64 ino1) := (HH9.out).1
              have e11 : w9.cell? ⟨w.heap.size, 1, none⟩ = some (.int .i64 kind1) := (HH9.out).2.1
              have e12 : w9.cell? ⟨w.heap.size, 2, none⟩ = some (.int .i64 links1) := (HH9.out).2.2.1
              have e13 : w9.cell? ⟨w.heap.size, 3, none⟩ = some (.string ⟨text1.toArray⟩) := (HH9.out).2.2.2.1
              have e14 : w9.cell? ⟨w.heap.size, 4, none⟩ = some (.slice A1 l1.length c1) := (HH9.out).2.2.2.2.1
              have e20 : w9.cell? ⟨w.heap.size + 1, 0, none⟩ = some (.int .i64 ino2) := (HH9.out).2.2.2.2.2.1
              have e21 : w9.cell? ⟨w.heap.size + 1, 1, none⟩ = some (.int .i64 kind2) := (HH9.out).2.2.2.2.2.2.1
              have e22 : w9.cell? ⟨w.heap.size + 1, 2, none⟩ = some (.int .i64 links2) := (HH9.out).2.2.2.2.2.2.2.1
              have e23 : w9.cell? ⟨w.heap.size + 1, 3, none⟩ = some (.string ⟨text2.toArray⟩) := (HH9.out).2.2.2.2.2.2.2.2.1
              have e24 : w9.cell? ⟨w.heap.size + 1, 4, none⟩ = some (.slice A2 l2.length c2) := (HH9.out).2.2.2.2.2.2.2.2.2.1
              have x0 : w9.cell? ⟨X, 0, none⟩ = some (.int .i64 ino1) := HT9.out.cell 0
              have x1 : w9.cell? ⟨X, 1, none⟩ = some (.int .i64 kind1) := HT9.out.cell 1
              have x2 : w9.cell? ⟨X, 2, none⟩ = some (.int .i64 links1) := HT9.out.cell 2
              have x3 : w9.cell? ⟨X, 3, none⟩ = some (.string ⟨text1.toArray⟩) := HT9.out.cell 3
              have x4 : w9.cell? ⟨X, 4, none⟩ = some (.slice A7 l1.length c7) := HT9.out.cell 4
              have hs9 := HT9.out.lt
              have hs90 := cell_lt e10
              have hs91 := cell_lt e20
              clear hE9 hb9 hW10 b910 hs10
              go_wp2_with fail
              rw [← HW10.out]
              refine HR1.out.mono ?_
              rintro e w11 ⟨rfl, hb11⟩
              have HT11 := Lib.hid (HT8'.out.below hb11)
              have HT12 := Lib.hid (HT10.out.below hb11)
              have HH11 := Lib.hid (HSB.out _ _ HH10.out hb11)
              have HB1011 := Lib.hid hb11
              clear hb11 e10 e11 e12 e13 e14 e20 e21 e22 e23 e24 x0 x1 x2 x3 x4 hs9 hs90 hs91
              have e10 : w11.cell? ⟨w.heap.size, 0, none⟩ = some (.int .i64 ino1) := HH11.out.1
              have e11 : w11.cell? ⟨w.heap.size, 1, none⟩ = some (.int .i64 kind1) := HH11.out.2.1
              have e12 : w11.cell? ⟨w.heap.size, 2, none⟩ = some (.int .i64 links1) := HH11.out.2.2.1
              have e13 : w11.cell? ⟨w.heap.size, 3, none⟩ = some (.string ⟨text1.toArray⟩) := HH11.out.2.2.2.1
              have e14 : w11.cell? ⟨w.heap.size, 4, none⟩ = some (.slice A1 l1.length c1) := HH11.out.2.2.2.2.1
              have e20 : w11.cell? ⟨w.heap.size + 1, 0, none⟩ = some (.int .i64 ino2) := HH11.out.2.2.2.2.2.1
              have e21 : w11.cell? ⟨w.heap.size + 1, 1, none⟩ = some (.int .i64 kind2) := HH11.out.2.2.2.2.2.2.1
              have e22 : w11.cell? ⟨w.heap.size + 1, 2, none⟩ = some (.int .i64 links2) := HH11.out.2.2.2.2.2.2.2.1
              have e23 : w11.cell? ⟨w.heap.size + 1, 3, none⟩ = some (.string ⟨text2.toArray⟩) := HH11.out.2.2.2.2.2.2.2.2.1
              have e24 : w11.cell? ⟨w.heap.size + 1, 4, none⟩ = some (.slice A2 l2.length c2) := HH11.out.2.2.2.2.2.2.2.2.2.1
              have x0 : w11.cell? ⟨X, 0, none⟩ = some (.int .i64 ino1) := HT11.out.cell 0
              have x1 : w11.cell? ⟨X, 1, none⟩ = some (.int .i64 kind1) := HT11.out.cell 1
              have x2 : w11.cell? ⟨X, 2, none⟩ = some (.int .i64 links1) := HT11.out.cell 2
              have x3 : w11.cell? ⟨X, 3, none⟩ = some (.string ⟨text1.toArray⟩) := HT11.out.cell 3
              have x4 : w11.cell? ⟨X, 4, none⟩ = some (.slice A7 l1.length c7) := HT11.out.cell 4
              have y0 : w11.cell? ⟨w9.heap.size, 0, none⟩ = some (.int .i64 ino2) := HT12.out.cell 0
              have y1 : w11.cell? ⟨w9.heap.size, 1, none⟩ = some (.int .i64 kind2) := HT12.out.cell 1
              have y2 : w11.cell? ⟨w9.heap.size, 2, none⟩ = some (.int .i64 links2) := HT12.out.cell 2
              have y3 : w11.cell? ⟨w9.heap.size, 3, none⟩ = some (.string ⟨text2.toArray⟩) := HT12.out.cell 3
              have y4 : w11.cell? ⟨w9.heap.size, 4, none⟩ = some (.slice A9 l2.length c9) := HT12.out.cell 4
              go_wp2_with fail
              refine (HR2.out w11 HB1011.out).mono ?_
              rintro e w12 ⟨rfl, hb12⟩
              have HB12 := Lib.hid (below_trans (HH11.out.2.2.2.2.2.2.2.2.2.2) hb12 (Below.size (HH11.out.2.2.2.2.2.2.2.2.2.2)))
              clear hb12 e10 e11 e12 e13 e14 e20 e21 e22 e23 e24 x0 x1 x2 x3 x4 y0 y1 y2 y3 y4
              go_wp2_with fail
              go_ret
              exact ⟨rfl, HB12.out⟩
          · rw [if_pos (by rfl)]
            go_wp2_with fail
            obtain ⟨V, hV⟩ : ∃ V, V = w7.alloc (.cells #[.int .i64 0, .int .i64 0, .int .i64 0, .string ⟨#[]⟩, .slice none 0 0] 24) := ⟨_, rfl⟩
            obtain ⟨X, hX⟩ : ∃ X, X = w7.heap.size := ⟨_, rfl⟩
            rw [← hV]
            try rw [← hX]
            have HTXB := Lib.hid (show TBox V X 24 #[.int .i64 0, .int .i64 0, .int .i64 0, .string ⟨#[]⟩, .slice none 0 0] from by rw [hV, hX]; exact TBox.new (w7) _ _)
            have HX2 := Lib.hid (show w.heap.size + 2 ≤ X from by
              have h1 := cell_lt (hHeld.2.2.2.2.2.1)
              have h0 := HBX.out
              have h2 := Below.size (hHeld.2.2.2.2.2.2.2.2.2.2)
              rw [hX]
              simp at h1 ⊢
              omega)
            replace hHeld : (fun W => W.cell? ⟨w.heap.size, 0, none⟩ = some (.int .i64 ino1) ∧ W.cell? ⟨w.heap.size, 1, none⟩ = some (.int .i64 kind1) ∧ W.cell? ⟨w.heap.size, 2, none⟩ = some (.int .i64 links1) ∧ W.cell? ⟨w.heap.size, 3, none⟩ = some (.string ⟨text1.toArray⟩) ∧ W.cell? ⟨w.heap.size, 4, none⟩ = some (.slice A1 l1.length c1) ∧ W.cell? ⟨w.heap.size + 1, 0, none⟩ = some (.int .i64 ino2) ∧ W.cell? ⟨w.heap.size + 1, 1, none⟩ = some (.int .i64 kind2) ∧ W.cell? ⟨w.heap.size + 1, 2, none⟩ = some (.int .i64 links2) ∧ W.cell? ⟨w.heap.size + 1, 3, none⟩ = some (.string ⟨text2.toArray⟩) ∧ W.cell? ⟨w.heap.size + 1, 4, none⟩ = some (.slice A2 l2.length c2) ∧ Below w.heap.size w W) V := by rw [hV]; exact HSA.out (w7) (.cells #[.int .i64 0, .int .i64 0, .int .i64 0, .string ⟨#[]⟩, .slice none 0 0] 24) hHeld
            clear hV hX
            refine hK.out _ _ hHeld (fun _ => ?_)
            clear hK K
            try simp only [Act.put, List.setIfInBounds_toArray, List.set_cons_zero, List.set_cons_succ, List.getElem_toArray, List.getElem_cons_zero, List.getElem_cons_succ]
            refine wpAnyH_ready (rs := [3]) (by kernel_rfl) (by simp) ?_
            refine (AllReadyH.cons rfl (fun K hK => ?_) AllReadyH.nil)
            rw [if_pos (by rfl)]
            go_wp2_with fail
            refine (HTX2.out _ (hHeld.2.2.2.2.2.2.2.2.2.2)).mono ?_
            rintro e w7 ⟨rfl, hb7⟩
            replace hHeld := HSB.out _ _ hHeld hb7
            have HTXB := Lib.hid (HTXB.out.below hb7)
            clear hb7
            refine hK.out _ _ hHeld (fun _ => ?_)
            clear hK K
            try simp only [Act.put, List.setIfInBounds_toArray, List.set_cons_zero, List.set_cons_succ, List.getElem_toArray, List.getElem_cons_zero, List.getElem_cons_succ]
            refine wpAnyH_take (i := 4) (v := ?_) rfl (by kernel_rfl) (by kernel_rfl) (by kernel_rfl) (fun _ _ _ h => h) (Or.inl ⟨by rfl, ?_⟩) (by assumption) ?_
            rotate_left
            · intro w hSw
              try dsimp only at hSw
              go_simp
              try with_reducible rfl
            rotate_left
            try simp only [Act.put, List.setIfInBounds_toArray, List.set_cons_zero, List.set_cons_succ, List.getElem_toArray, List.getElem_cons_zero, List.getElem_cons_succ]
            refine wpAnyH_ready (rs := [5]) (by kernel_rfl) (by simp) ?_
            refine (AllReadyH.cons rfl (fun K hK => ?_) AllReadyH.nil)
            rw [if_pos (by rfl)]
            go_wp2_with fail
            refine (HTK1.out _).mono ?_
            rintro e w7 ⟨v7, rfl, ⟨A7, c7, rfl, hE7⟩, hb7, hat7⟩
            replace hHeld := HSB.out _ _ hHeld hb7
            have HXLT := Lib.hid HTXB.out.lt
            have HTXB := Lib.hid (HTXB.out.below hb7)
            simp only at hE7 ⊢
            have hAT := hat7 _ _ _ _ _ _ _ rfl
            simp only at hAT
            have HE7 := Lib.hid (And.intro hE7 hAT)
            clear hb7 hE7 hat7 hAT
            refine hK.out _ _ hHeld (fun _ => ?_)
            clear hK K
            try simp only [Act.put, List.setIfInBounds_toArray, List.set_cons_zero, List.set_cons_succ, List.getElem_toArray, List.getElem_cons_zero, List.getElem_cons_succ]
            refine wpAnyH_take (i := 6) (v := ?_) rfl (by kernel_rfl) (by kernel_rfl) (by kernel_rfl) (fun _ _ _ h => h) (Or.inl ⟨by rfl, ?_⟩) (by assumption) ?_
            rotate_left
            · intro w hSw
              try dsimp only at hSw
              go_simp
              try with_reducible rfl
            rotate_left
            try simp only [Act.put, List.setIfInBounds_toArray, List.set_cons_zero, List.set_cons_succ, List.getElem_toArray, List.getElem_cons_zero, List.getElem_cons_succ]
            refine wpAnyH_take (i := 7) (v := ?_) rfl (by kernel_rfl) (by kernel_rfl) (by kernel_rfl) (fun _ _ _ h => h) (Or.inl ⟨by rfl, ?_⟩) (by assumption) ?_
            rotate_left
            · intro w hSw
              try dsimp only at hSw
              go_simp
              try with_reducible rfl
            rotate_left
            try simp only [Act.put, List.setIfInBounds_toArray, List.set_cons_zero, List.set_cons_succ, List.getElem_toArray, List.getElem_cons_zero, List.getElem_cons_succ]
            refine wpAnyH_take (i := 8) (v := ?_) rfl (by kernel_rfl) (by kernel_rfl) (by kernel_rfl) (fun _ _ _ h => h) (Or.inl ⟨by rfl, ?_⟩) (by assumption) ?_
            rotate_left
            · intro w hSw
              try dsimp only at hSw
              go_simp
              try with_reducible rfl
            rotate_left
            try simp only [Act.put, List.setIfInBounds_toArray, List.set_cons_zero, List.set_cons_succ, List.getElem_toArray, List.getElem_cons_zero, List.getElem_cons_succ]
            refine wpAnyH_take (i := 9) (v := ?_) rfl (by kernel_rfl) (by kernel_rfl) (by kernel_rfl) (fun _ _ _ h => h) (Or.inl ⟨by rfl, ?_⟩) (by assumption) ?_
            rotate_left
            · intro w hSw
              try dsimp only at hSw
              go_simp
              try with_reducible rfl
            rotate_left
            try simp only [Act.put, List.setIfInBounds_toArray, List.set_cons_zero, List.set_cons_succ, List.getElem_toArray, List.getElem_cons_zero, List.getElem_cons_succ]
            refine wpAnyH_ready (rs := [11]) (by kernel_rfl) (by simp) ?_
            refine (AllReadyH.cons rfl (fun K hK => ?_) AllReadyH.nil)
            have p0 : w7.cell? ⟨X, 0, none⟩ = some (.int .i64 0) := HTXB.out.cell 0
            have p1 : w7.cell? ⟨X, 1, none⟩ = some (.int .i64 0) := HTXB.out.cell 1
            have p2 : w7.cell? ⟨X, 2, none⟩ = some (.int .i64 0) := HTXB.out.cell 2
            have p3 : w7.cell? ⟨X, 3, none⟩ = some (.string ⟨#[]⟩) := HTXB.out.cell 3
            have p4 : w7.cell? ⟨X, 4, none⟩ = some (.slice none 0 0) := HTXB.out.cell 4
            have f0 := HTXB.out.free 0
            have f1 := HTXB.out.free 1
            have f2 := HTXB.out.free 2
            have f3 := HTXB.out.free 3
            have f4 := HTXB.out.free 4
            have HH7 := Lib.hid hHeld
            rw [if_pos (by rfl)]
            go_wp2_with fail
            obtain ⟨W8, hW8⟩ : ∃ W8, W8 = ((((w7.setCell ⟨X, 0, none⟩ (.int .i64 ino1)).setCell ⟨X, 1, none⟩ (.int .i64 kind1)).setCell ⟨X, 2, none⟩ (.int .i64 links1)).setCell ⟨X, 3, none⟩ (.string ⟨text1.toArray⟩)).setCell ⟨X, 4, none⟩ (.slice A7 l1.length c7) := ⟨_, rfl⟩
            rw [← hW8]
            have HH8 := Lib.hid (show (fun W => W.cell? ⟨w.heap.size, 0, none⟩ = some (.int .i64 ino1) ∧ W.cell? ⟨w.heap.size, 1, none⟩ = some (.int .i64 kind1) ∧ W.cell? ⟨w.heap.size, 2, none⟩ = some (.int .i64 links1) ∧ W.cell? ⟨w.heap.size, 3, none⟩ = some (.string ⟨text1.toArray⟩) ∧ W.cell? ⟨w.heap.size, 4, none⟩ = some (.slice A1 l1.length c1) ∧ W.cell? ⟨w.heap.size + 1, 0, none⟩ = some (.int .i64 ino2) ∧ W.cell? ⟨w.heap.size + 1, 1, none⟩ = some (.int .i64 kind2) ∧ W.cell? ⟨w.heap.size + 1, 2, none⟩ = some (.int .i64 links2) ∧ W.cell? ⟨w.heap.size + 1, 3, none⟩ = some (.string ⟨text2.toArray⟩) ∧ W.cell? ⟨w.heap.size + 1, 4, none⟩ = some (.slice A2 l2.length c2) ∧ Below w.heap.size w W) W8 from by rw [hW8]; exact HSC.out _ _ _ _ (HSC.out _ _ _ _ (HSC.out _ _ _ _ (HSC.out _ _ _ _ (HSC.out _ _ _ _ HH7.out HX2.out) HX2.out) HX2.out) HX2.out) HX2.out)
            have HT8 := Lib.hid (show TBox W8 X 24 #[.int .i64 ino1, .int .i64 kind1, .int .i64 links1, .string ⟨text1.toArray⟩, .slice A7 l1.length c7] from by rw [hW8]; exact ((((HTXB.out.set 0 _).set 1 _).set 2 _).set 3 _).set 4 _)
            have HE8 := Lib.hid (show Ents W8 (.slice A7 l1.length c7) l1 from by
              rw [hW8]
              have hx := HXLT.out
              exact Sl.frame HE7.out.1 HE7.out.2 (fun b hb _ => by
                have hne : b ≠ X := by omega
                rw [heap_setCell_far _ _ _ _ hne, heap_setCell_far _ _ _ _ hne, heap_setCell_far _ _ _ _ hne, heap_setCell_far _ _ _ _ hne, heap_setCell_far _ _ _ _ hne]) (by simp))
            clear hW8 p0 p1 p2 p3 p4 f0 f1 f2 f3 f4
            refine hK.out _ _ HH8.out (fun hHeld => ?_)
            clear hK K
            try simp only [Act.put, List.setIfInBounds_toArray, List.set_cons_zero, List.set_cons_succ, List.getElem_toArray, List.getElem_cons_zero, List.getElem_cons_succ]
            refine wpAnyH_take (i := 12) (v := ?_) rfl (by kernel_rfl) (by kernel_rfl) (by kernel_rfl) (fun _ _ _ h => h) (Or.inl ⟨by rfl, ?_⟩) (by assumption) ?_
            rotate_left
            · intro w hSw
              try dsimp only at hSw
              go_simp
              try with_reducible rfl
            rotate_left
            try simp only [Act.put, List.setIfInBounds_toArray, List.set_cons_zero, List.set_cons_succ, List.getElem_toArray, List.getElem_cons_zero, List.getElem_cons_succ]
            refine wpAnyH_take (i := 13) (v := ?_) rfl (by kernel_rfl) (by kernel_rfl) (by kernel_rfl) (fun _ _ _ h => h) (Or.inl ⟨by rfl, ?_⟩) (by assumption) ?_
            rotate_left
            · intro w hSw
              try dsimp only at hSw
              go_simp
              try with_reducible rfl
            rotate_left
            try simp only [Act.put, List.setIfInBounds_toArray, List.set_cons_zero, List.set_cons_succ, List.getElem_toArray, List.getElem_cons_zero, List.getElem_cons_succ]
            refine wpAnyH_done (by kernel_rfl) ?_ _
            clear hHeld e10 e11 e12 e13 e14 e20 e21 e22 e23 e24
            go_wp2_with fail
            refine (HTK2.out W8).mono ?_
            rintro e w9 ⟨v9, rfl, ⟨A9, c9, rfl, hE9⟩, hb9⟩
            simp only at hE9 ⊢
            have HT9 := Lib.hid (HT8.out.below hb9)
            have HH9 := Lib.hid (HSB.out _ _ HH8.out hb9)
            obtain ⟨W10, hW10⟩ : ∃ W10, W10 = w9.alloc (.cells #[.int .i64 ino2, .int .i64 kind2, .int .i64 links2, .string ⟨text2.toArray⟩, .slice A9 l2.length c9] 24) := ⟨_, rfl⟩
            have b910 : Below w9.heap.size w9 W10 := by rw [hW10]; exact (Below.refl _ _).alloc (Nat.le_refl _) _
            have HT10 := Lib.hid (show TBox W10 w9.heap.size 24 #[.int .i64 ino2, .int .i64 kind2, .int .i64 links2, .string ⟨text2.toArray⟩, .slice A9 l2.length c9] from by rw [hW10]; exact TBox.new _ _ _)
            have HT8' := Lib.hid (HT9.out.below b910)
            have HH10 := Lib.hid (HSB.out _ _ HH9.out b910)
            have HR1 := Lib.hid (ref07_Same ⟨ino1, kind1, links1, text1, l1⟩ ⟨ino1, kind1, links1, text1, l1⟩ _ _ W10 ⟨A7, c7, rfl, (HE8.out.below hb9).below b910⟩ (HNV1.out W10 (HH10.out.2.2.2.2.2.2.2.2.2.2)) HO1.out HO1.out (by simp only; omega) (by simp only; omega))
            have HR2 := Lib.hid (fun W (h : Below W10.heap.size W10 W) => ref07_Same ⟨ino2, kind2, links2, text2, l2⟩ ⟨ino2, kind2, links2, text2, l2⟩ _ _ W ⟨A9, c9, rfl, (hE9.below b910).below h⟩ (HNV2.out W (below_trans (HH10.out.2.2.2.2.2.2.2.2.2.2) h (Below.size (HH10.out.2.2.2.2.2.2.2.2.2.2)))) HO2.out HO2.out (by simp only; omega) (by simp only; omega))
            rw [sameN_self] at HR1 HR2
            have HW10 := Lib.hid hW10
            have hs10 : W10.heap.size = w9.heap.size + 1 := by rw [hW10]; simp
            have e10 : w9.cell? ⟨w.heap.size, 0, none⟩ = some (.int .i64 ino1) := (HH9.out).1
            have e11 : w9.cell? ⟨w.heap.size, 1, none⟩ = some (.int .i64 kind1) := (HH9.out).2.1
            have e12 : w9.cell? ⟨w.heap.size, 2, none⟩ = some (.int .i64 links1) := (HH9.out).2.2.1
            have e13 : w9.cell? ⟨w.heap.size, 3, none⟩ = some (.string ⟨text1.toArray⟩) := (HH9.out).2.2.2.1
            have e14 : w9.cell? ⟨w.heap.size, 4, none⟩ = some (.slice A1 l1.length c1) := (HH9.out).2.2.2.2.1
            have e20 : w9.cell? ⟨w.heap.size + 1, 0, none⟩ = some (.int .i64 ino2) := (HH9.out).2.2.2.2.2.1
            have e21 : w9.cell? ⟨w.heap.size + 1, 1, none⟩ = some (.int .i64 kind2) := (HH9.out).2.2.2.2.2.2.1
            have e22 : w9.cell? ⟨w.heap.size + 1, 2, none⟩ = some (.int .i64 links2) := (HH9.out).2.2.2.2.2.2.2.1
            have e23 : w9.cell? ⟨w.heap.size + 1, 3, none⟩ = some (.string ⟨text2.toArray⟩) := (HH9.out).2.2.2.2.2.2.2.2.1
            have e24 : w9.cell? ⟨w.heap.size + 1, 4, none⟩ = some (.slice A2 l2.length c2) := (HH9.out).2.2.2.2.2.2.2.2.2.1
            have x0 : w9.cell? ⟨X, 0, none⟩ = some (.int .i64 ino1) := HT9.out.cell 0
            have x1 : w9.cell? ⟨X, 1, none⟩ = some (.int .i64 kind1) := HT9.out.cell 1
            have x2 : w9.cell? ⟨X, 2, none⟩ = some (.int .i64 links1) := HT9.out.cell 2
            have x3 : w9.cell? ⟨X, 3, none⟩ = some (.string ⟨text1.toArray⟩) := HT9.out.cell 3
            have x4 : w9.cell? ⟨X, 4, none⟩ = some (.slice A7 l1.length c7) := HT9.out.cell 4
            have hs9 := HT9.out.lt
            have hs90 := cell_lt e10
            have hs91 := cell_lt e20
            clear hE9 hb9 hW10 b910 hs10
            go_wp2_with fail
            rw [← HW10.out]
            refine HR1.out.mono ?_
            rintro e w11 ⟨rfl, hb11⟩
            have HT11 := Lib.hid (HT8'.out.below hb11)
            have HT12 := Lib.hid (HT10.out.below hb11)
            have HH11 := Lib.hid (HSB.out _ _ HH10.out hb11)
            have HB1011 := Lib.hid hb11
            clear hb11 e10 e11 e12 e13 e14 e20 e21 e22 e23 e24 x0 x1 x2 x3 x4 hs9 hs90 hs91
            have e10 : w11.cell? ⟨w.heap.size, 0, none⟩ = some (.int .i64 ino1) := HH11.out.1
            have e11 : w11.cell? ⟨w.heap.size, 1, none⟩ = some (.int .i64 kind1) := HH11.out.2.1
            have e12 : w11.cell? ⟨w.heap.size, 2, none⟩ = some (.int .i64 links1) := HH11.out.2.2.1
            have e13 : w11.cell? ⟨w.heap.size, 3, none⟩ = some (.string ⟨text1.toArray⟩) := HH11.out.2.2.2.1
            have e14 : w11.cell? ⟨w.heap.size, 4, none⟩ = some (.slice A1 l1.length c1) := HH11.out.2.2.2.2.1
            have e20 : w11.cell? ⟨w.heap.size + 1, 0, none⟩ = some (.int .i64 ino2) := HH11.out.2.2.2.2.2.1
            have e21 : w11.cell? ⟨w.heap.size + 1, 1, none⟩ = some (.int .i64 kind2) := HH11.out.2.2.2.2.2.2.1
            have e22 : w11.cell? ⟨w.heap.size + 1, 2, none⟩ = some (.int .i64 links2) := HH11.out.2.2.2.2.2.2.2.1
            have e23 : w11.cell? ⟨w.heap.size + 1, 3, none⟩ = some (.string ⟨text2.toArray⟩) := HH11.out.2.2.2.2.2.2.2.2.1
            have e24 : w11.cell? ⟨w.heap.size + 1, 4, none⟩ = some (.slice A2 l2.length c2) := HH11.out.2.2.2.2.2.2.2.2.2.1
            have x0 : w11.cell? ⟨X, 0, none⟩ = some (.int .i64 ino1) := HT11.out.cell 0
            have x1 : w11.cell? ⟨X, 1, none⟩ = some (.int .i64 kind1) := HT11.out.cell 1
            have x2 : w11.cell? ⟨X, 2, none⟩ = some (.int .i64 links1) := HT11.out.cell 2
            have x3 : w11.cell? ⟨X, 3, none⟩ = some (.string ⟨text1.toArray⟩) := HT11.out.cell 3
            have x4 : w11.cell? ⟨X, 4, none⟩ = some (.slice A7 l1.length c7) := HT11.out.cell 4
            have y0 : w11.cell? ⟨w9.heap.size, 0, none⟩ = some (.int .i64 ino2) := HT12.out.cell 0
            have y1 : w11.cell? ⟨w9.heap.size, 1, none⟩ = some (.int .i64 kind2) := HT12.out.cell 1
            have y2 : w11.cell? ⟨w9.heap.size, 2, none⟩ = some (.int .i64 links2) := HT12.out.cell 2
            have y3 : w11.cell? ⟨w9.heap.size, 3, none⟩ = some (.string ⟨text2.toArray⟩) := HT12.out.cell 3
            have y4 : w11.cell? ⟨w9.heap.size, 4, none⟩ = some (.slice A9 l2.length c9) := HT12.out.cell 4
            go_wp2_with fail
            refine (HR2.out w11 HB1011.out).mono ?_
            rintro e w12 ⟨rfl, hb12⟩
            have HB12 := Lib.hid (below_trans (HH11.out.2.2.2.2.2.2.2.2.2.2) hb12 (Below.size (HH11.out.2.2.2.2.2.2.2.2.2.2)))
            clear hb12 e10 e11 e12 e13 e14 e20 e21 e22 e23 e24 x0 x1 x2 x3 x4 y0 y1 y2 y3 y4
            go_wp2_with fail
            go_ret
            exact ⟨rfl, HB12.out⟩
        · rw [if_pos (by rfl)]
          go_wp2_with fail
          obtain ⟨V, hV⟩ : ∃ V, V = (w3.alloc (.cells #[.int .i64 0, .int .i64 0, .int .i64 0, .string ⟨#[]⟩, .slice none 0 0] 24)).drew := ⟨_, rfl⟩
          obtain ⟨X, hX⟩ : ∃ X, X = w3.heap.size := ⟨_, rfl⟩
          rw [← hV]
          try rw [← hX]
          have HTXB := Lib.hid (show TBox V X 24 #[.int .i64 0, .int .i64 0, .int .i64 0, .string ⟨#[]⟩, .slice none 0 0] from by rw [hV, hX]; exact TBox.new (w3.drew) _ _)
          have HX2 := Lib.hid (show w.heap.size + 2 ≤ X from by
            have h1 := cell_lt (hHeld.2.2.2.2.2.1)
            have h0 := HBX.out
            have h2 := Below.size (hHeld.2.2.2.2.2.2.2.2.2.2)
            rw [hX]
            simp at h1 ⊢
            omega)
          replace hHeld : (fun W => W.cell? ⟨w.heap.size, 0, none⟩ = some (.int .i64 ino1) ∧ W.cell? ⟨w.heap.size, 1, none⟩ = some (.int .i64 kind1) ∧ W.cell? ⟨w.heap.size, 2, none⟩ = some (.int .i64 links1) ∧ W.cell? ⟨w.heap.size, 3, none⟩ = some (.string ⟨text1.toArray⟩) ∧ W.cell? ⟨w.heap.size, 4, none⟩ = some (.slice A1 l1.length c1) ∧ W.cell? ⟨w.heap.size + 1, 0, none⟩ = some (.int .i64 ino2) ∧ W.cell? ⟨w.heap.size + 1, 1, none⟩ = some (.int .i64 kind2) ∧ W.cell? ⟨w.heap.size + 1, 2, none⟩ = some (.int .i64 links2) ∧ W.cell? ⟨w.heap.size + 1, 3, none⟩ = some (.string ⟨text2.toArray⟩) ∧ W.cell? ⟨w.heap.size + 1, 4, none⟩ = some (.slice A2 l2.length c2) ∧ Below w.heap.size w W) V := by rw [hV]; exact HSA.out (w3.drew) (.cells #[.int .i64 0, .int .i64 0, .int .i64 0, .string ⟨#[]⟩, .slice none 0 0] 24) hHeld
          clear hV hX
          refine hK.out _ _ hHeld (fun _ => ?_)
          clear hK K
          try simp only [Act.put, List.setIfInBounds_toArray, List.set_cons_zero, List.set_cons_succ, List.getElem_toArray, List.getElem_cons_zero, List.getElem_cons_succ]
          refine wpAnyH_ready (rs := [1]) (by kernel_rfl) (by simp) ?_
          refine (AllReadyH.cons rfl (fun K hK => ?_) AllReadyH.nil)
          rw [if_pos (by rfl)]
          go_wp2_with fail
          refine (HTX1.out _ (hHeld.2.2.2.2.2.2.2.2.2.2)).mono ?_
          rintro e w7 ⟨rfl, hb7⟩
          replace hHeld := HSB.out _ _ hHeld hb7
          have HTXB := Lib.hid (HTXB.out.below hb7)
          clear hb7
          refine hK.out _ _ hHeld (fun _ => ?_)
          clear hK K
          try simp only [Act.put, List.setIfInBounds_toArray, List.set_cons_zero, List.set_cons_succ, List.getElem_toArray, List.getElem_cons_zero, List.getElem_cons_succ]
          refine wpAnyH_ready (rs := [3]) (by kernel_rfl) (by simp) ?_
          refine (AllReadyH.cons rfl (fun K hK => ?_) AllReadyH.nil)
          rw [if_pos (by rfl)]
          go_wp2_with fail
          refine (HTX2.out _ (hHeld.2.2.2.2.2.2.2.2.2.2)).mono ?_
          rintro e w7 ⟨rfl, hb7⟩
          replace hHeld := HSB.out _ _ hHeld hb7
          have HTXB := Lib.hid (HTXB.out.below hb7)
          clear hb7
          refine hK.out _ _ hHeld (fun _ => ?_)
          clear hK K
          try simp only [Act.put, List.setIfInBounds_toArray, List.set_cons_zero, List.set_cons_succ, List.getElem_toArray, List.getElem_cons_zero, List.getElem_cons_succ]
          refine wpAnyH_take (i := 4) (v := ?_) rfl (by kernel_rfl) (by kernel_rfl) (by kernel_rfl) (fun _ _ _ h => h) (Or.inl ⟨by rfl, ?_⟩) (by assumption) ?_
          rotate_left
          · intro w hSw
            try dsimp only at hSw
            go_simp
            try with_reducible rfl
          rotate_left
          try simp only [Act.put, List.setIfInBounds_toArray, List.set_cons_zero, List.set_cons_succ, List.getElem_toArray, List.getElem_cons_zero, List.getElem_cons_succ]
          refine wpAnyH_ready (rs := [5]) (by kernel_rfl) (by simp) ?_
          refine (AllReadyH.cons rfl (fun K hK => ?_) AllReadyH.nil)
          rw [if_pos (by rfl)]
          go_wp2_with fail
          refine (HTK1.out _).mono ?_
          rintro e w7 ⟨v7, rfl, ⟨A7, c7, rfl, hE7⟩, hb7, hat7⟩
          replace hHeld := HSB.out _ _ hHeld hb7
          have HXLT := Lib.hid HTXB.out.lt
          have HTXB := Lib.hid (HTXB.out.below hb7)
          simp only at hE7 ⊢
          have hAT := hat7 _ _ _ _ _ _ _ rfl
          simp only at hAT
          have HE7 := Lib.hid (And.intro hE7 hAT)
          clear hb7 hE7 hat7 hAT
          refine hK.out _ _ hHeld (fun _ => ?_)
          clear hK K
          try simp only [Act.put, List.setIfInBounds_toArray, List.set_cons_zero, List.set_cons_succ, List.getElem_toArray, List.getElem_cons_zero, List.getElem_cons_succ]
          refine wpAnyH_take (i := 6) (v := ?_) rfl (by kernel_rfl) (by kernel_rfl) (by kernel_rfl) (fun _ _ _ h => h) (Or.inl ⟨by rfl, ?_⟩) (by assumption) ?_
          rotate_left
          · intro w hSw
            try dsimp only at hSw
            go_simp
            try with_reducible rfl
          rotate_left
          try simp only [Act.put, List.setIfInBounds_toArray, List.set_cons_zero, List.set_cons_succ, List.getElem_toArray, List.getElem_cons_zero, List.getElem_cons_succ]
          refine wpAnyH_take (i := 7) (v := ?_) rfl (by kernel_rfl) (by kernel_rfl) (by kernel_rfl) (fun _ _ _ h => h) (Or.inl ⟨by rfl, ?_⟩) (by assumption) ?_
          rotate_left
          · intro w hSw
            try dsimp only at hSw
            go_simp
            try with_reducible rfl
          rotate_left
          try simp only [Act.put, List.setIfInBounds_toArray, List.set_cons_zero, List.set_cons_succ, List.getElem_toArray, List.getElem_cons_zero, List.getElem_cons_succ]
          refine wpAnyH_take (i := 8) (v := ?_) rfl (by kernel_rfl) (by kernel_rfl) (by kernel_rfl) (fun _ _ _ h => h) (Or.inl ⟨by rfl, ?_⟩) (by assumption) ?_
          rotate_left
          · intro w hSw
            try dsimp only at hSw
            go_simp
            try with_reducible rfl
          rotate_left
          try simp only [Act.put, List.setIfInBounds_toArray, List.set_cons_zero, List.set_cons_succ, List.getElem_toArray, List.getElem_cons_zero, List.getElem_cons_succ]
          refine wpAnyH_take (i := 9) (v := ?_) rfl (by kernel_rfl) (by kernel_rfl) (by kernel_rfl) (fun _ _ _ h => h) (Or.inl ⟨by rfl, ?_⟩) (by assumption) ?_
          rotate_left
          · intro w hSw
            try dsimp only at hSw
            go_simp
            try with_reducible rfl
          rotate_left
          try simp only [Act.put, List.setIfInBounds_toArray, List.set_cons_zero, List.set_cons_succ, List.getElem_toArray, List.getElem_cons_zero, List.getElem_cons_succ]
          refine wpAnyH_ready (rs := [11]) (by kernel_rfl) (by simp) ?_
          refine (AllReadyH.cons rfl (fun K hK => ?_) AllReadyH.nil)
          have p0 : w7.cell? ⟨X, 0, none⟩ = some (.int .i64 0) := HTXB.out.cell 0
          have p1 : w7.cell? ⟨X, 1, none⟩ = some (.int .i64 0) := HTXB.out.cell 1
          have p2 : w7.cell? ⟨X, 2, none⟩ = some (.int .i64 0) := HTXB.out.cell 2
          have p3 : w7.cell? ⟨X, 3, none⟩ = some (.string ⟨#[]⟩) := HTXB.out.cell 3
          have p4 : w7.cell? ⟨X, 4, none⟩ = some (.slice none 0 0) := HTXB.out.cell 4
          have f0 := HTXB.out.free 0
          have f1 := HTXB.out.free 1
          have f2 := HTXB.out.free 2
          have f3 := HTXB.out.free 3
          have f4 := HTXB.out.free 4
          have HH7 := Lib.hid hHeld
          rw [if_pos (by rfl)]
          go_wp2_with fail
          obtain ⟨W8, hW8⟩ : ∃ W8, W8 = ((((w7.setCell ⟨X, 0, none⟩ (.int .i64 ino1)).setCell ⟨X, 1, none⟩ (.int .i64 kind1)).setCell ⟨X, 2, none⟩ (.int .i64 links1)).setCell ⟨X, 3, none⟩ (.string ⟨text1.toArray⟩)).setCell ⟨X, 4, none⟩ (.slice A7 l1.length c7) := ⟨_, rfl⟩
          rw [← hW8]
          have HH8 := Lib.hid (show (fun W => W.cell? ⟨w.heap.size, 0, none⟩ = some (.int .i64 ino1) ∧ W.cell? ⟨w.heap.size, 1, none⟩ = some (.int .i64 kind1) ∧ W.cell? ⟨w.heap.size, 2, none⟩ = some (.int .i64 links1) ∧ W.cell? ⟨w.heap.size, 3, none⟩ = some (.string ⟨text1.toArray⟩) ∧ W.cell? ⟨w.heap.size, 4, none⟩ = some (.slice A1 l1.length c1) ∧ W.cell? ⟨w.heap.size + 1, 0, none⟩ = some (.int .i64 ino2) ∧ W.cell? ⟨w.heap.size + 1, 1, none⟩ = some (.int .i64 kind2) ∧ W.cell? ⟨w.heap.size + 1, 2, none⟩ = some (.int .i64 links2) ∧ W.cell? ⟨w.heap.size + 1, 3, none⟩ = some (.string ⟨text2.toArray⟩) ∧ W.cell? ⟨w.heap.size + 1, 4, none⟩ = some (.slice A2 l2.length c2) ∧ Below w.heap.size w W) W8 from by rw [hW8]; exact HSC.out _ _ _ _ (HSC.out _ _ _ _ (HSC.out _ _ _ _ (HSC.out _ _ _ _ (HSC.out _ _ _ _ HH7.out HX2.out) HX2.out) HX2.out) HX2.out) HX2.out)
          have HT8 := Lib.hid (show TBox W8 X 24 #[.int .i64 ino1, .int .i64 kind1, .int .i64 links1, .string ⟨text1.toArray⟩, .slice A7 l1.length c7] from by rw [hW8]; exact ((((HTXB.out.set 0 _).set 1 _).set 2 _).set 3 _).set 4 _)
          have HE8 := Lib.hid (show Ents W8 (.slice A7 l1.length c7) l1 from by
            rw [hW8]
            have hx := HXLT.out
            exact Sl.frame HE7.out.1 HE7.out.2 (fun b hb _ => by
              have hne : b ≠ X := by omega
              rw [heap_setCell_far _ _ _ _ hne, heap_setCell_far _ _ _ _ hne, heap_setCell_far _ _ _ _ hne, heap_setCell_far _ _ _ _ hne, heap_setCell_far _ _ _ _ hne]) (by simp))
          clear hW8 p0 p1 p2 p3 p4 f0 f1 f2 f3 f4
          refine hK.out _ _ HH8.out (fun hHeld => ?_)
          clear hK K
          try simp only [Act.put, List.setIfInBounds_toArray, List.set_cons_zero, List.set_cons_succ, List.getElem_toArray, List.getElem_cons_zero, List.getElem_cons_succ]
          refine wpAnyH_take (i := 12) (v := ?_) rfl (by kernel_rfl) (by kernel_rfl) (by kernel_rfl) (fun _ _ _ h => h) (Or.inl ⟨by rfl, ?_⟩) (by assumption) ?_
          rotate_left
          · intro w hSw
            try dsimp only at hSw
            go_simp
            try with_reducible rfl
          rotate_left
          try simp only [Act.put, List.setIfInBounds_toArray, List.set_cons_zero, List.set_cons_succ, List.getElem_toArray, List.getElem_cons_zero, List.getElem_cons_succ]
          refine wpAnyH_take (i := 13) (v := ?_) rfl (by kernel_rfl) (by kernel_rfl) (by kernel_rfl) (fun _ _ _ h => h) (Or.inl ⟨by rfl, ?_⟩) (by assumption) ?_
          rotate_left
          · intro w hSw
            try dsimp only at hSw
            go_simp
            try with_reducible rfl
          rotate_left
          try simp only [Act.put, List.setIfInBounds_toArray, List.set_cons_zero, List.set_cons_succ, List.getElem_toArray, List.getElem_cons_zero, List.getElem_cons_succ]
          refine wpAnyH_done (by kernel_rfl) ?_ _
          clear hHeld e10 e11 e12 e13 e14 e20 e21 e22 e23 e24
          go_wp2_with fail
          refine (HTK2.out W8).mono ?_
          rintro e w9 ⟨v9, rfl, ⟨A9, c9, rfl, hE9⟩, hb9⟩
          simp only at hE9 ⊢
          have HT9 := Lib.hid (HT8.out.below hb9)
          have HH9 := Lib.hid (HSB.out _ _ HH8.out hb9)
          obtain ⟨W10, hW10⟩ : ∃ W10, W10 = w9.alloc (.cells #[.int .i64 ino2, .int .i64 kind2, .int .i64 links2, .string ⟨text2.toArray⟩, .slice A9 l2.length c9] 24) := ⟨_, rfl⟩
          have b910 : Below w9.heap.size w9 W10 := by rw [hW10]; exact (Below.refl _ _).alloc (Nat.le_refl _) _
          have HT10 := Lib.hid (show TBox W10 w9.heap.size 24 #[.int .i64 ino2, .int .i64 kind2, .int .i64 links2, .string ⟨text2.toArray⟩, .slice A9 l2.length c9] from by rw [hW10]; exact TBox.new _ _ _)
          have HT8' := Lib.hid (HT9.out.below b910)
          have HH10 := Lib.hid (HSB.out _ _ HH9.out b910)
          have HR1 := Lib.hid (ref07_Same ⟨ino1, kind1, links1, text1, l1⟩ ⟨ino1, kind1, links1, text1, l1⟩ _ _ W10 ⟨A7, c7, rfl, (HE8.out.below hb9).below b910⟩ (HNV1.out W10 (HH10.out.2.2.2.2.2.2.2.2.2.2)) HO1.out HO1.out (by simp only; omega) (by simp only; omega))
          have HR2 := Lib.hid (fun W (h : Below W10.heap.size W10 W) => ref07_Same ⟨ino2, kind2, links2, text2, l2⟩ ⟨ino2, kind2, links2, text2, l2⟩ _ _ W ⟨A9, c9, rfl, (hE9.below b910).below h⟩ (HNV2.out W (below_trans (HH10.out.2.2.2.2.2.2.2.2.2.2) h (Below.size (HH10.out.2.2.2.2.2.2.2.2.2.2)))) HO2.out HO2.out (by simp only; omega) (by simp only; omega))
          rw [sameN_self] at HR1 HR2
          have HW10 := Lib.hid hW10
          have hs10 : W10.heap.size = w9.heap.size + 1 := by rw [hW10]; simp
          have e10 : w9.cell? ⟨w.heap.size, 0, none⟩ = some (.int .i64 ino1) := (HH9.out).1
          have e11 : w9.cell? ⟨w.heap.size, 1, none⟩ = some (.int .i64 kind1) := (HH9.out).2.1
          have e12 : w9.cell? ⟨w.heap.size, 2, none⟩ = some (.int .i64 links1) := (HH9.out).2.2.1
          have e13 : w9.cell? ⟨w.heap.size, 3, none⟩ = some (.string ⟨text1.toArray⟩) := (HH9.out).2.2.2.1
          have e14 : w9.cell? ⟨w.heap.size, 4, none⟩ = some (.slice A1 l1.length c1) := (HH9.out).2.2.2.2.1
          have e20 : w9.cell? ⟨w.heap.size + 1, 0, none⟩ = some (.int .i64 ino2) := (HH9.out).2.2.2.2.2.1
          have e21 : w9.cell? ⟨w.heap.size + 1, 1, none⟩ = some (.int .i64 kind2) := (HH9.out).2.2.2.2.2.2.1
          have e22 : w9.cell? ⟨w.heap.size + 1, 2, none⟩ = some (.int .i64 links2) := (HH9.out).2.2.2.2.2.2.2.1
          have e23 : w9.cell? ⟨w.heap.size + 1, 3, none⟩ = some (.string ⟨text2.toArray⟩) := (HH9.out).2.2.2.2.2.2.2.2.1
          have e24 : w9.cell? ⟨w.heap.size + 1, 4, none⟩ = some (.slice A2 l2.length c2) := (HH9.out).2.2.2.2.2.2.2.2.2.1
          have x0 : w9.cell? ⟨X, 0, none⟩ = some (.int .i64 ino1) := HT9.out.cell 0
          have x1 : w9.cell? ⟨X, 1, none⟩ = some (.int .i64 kind1) := HT9.out.cell 1
          have x2 : w9.cell? ⟨X, 2, none⟩ = some (.int .i64 links1) := HT9.out.cell 2
          have x3 : w9.cell? ⟨X, 3, none⟩ = some (.string ⟨text1.toArray⟩) := HT9.out.cell 3
          have x4 : w9.cell? ⟨X, 4, none⟩ = some (.slice A7 l1.length c7) := HT9.out.cell 4
          have hs9 := HT9.out.lt
          have hs90 := cell_lt e10
          have hs91 := cell_lt e20
          clear hE9 hb9 hW10 b910 hs10
          go_wp2_with fail
          rw [← HW10.out]
          refine HR1.out.mono ?_
          rintro e w11 ⟨rfl, hb11⟩
          have HT11 := Lib.hid (HT8'.out.below hb11)
          have HT12 := Lib.hid (HT10.out.below hb11)
          have HH11 := Lib.hid (HSB.out _ _ HH10.out hb11)
          have HB1011 := Lib.hid hb11
          clear hb11 e10 e11 e12 e13 e14 e20 e21 e22 e23 e24 x0 x1 x2 x3 x4 hs9 hs90 hs91
          have e10 : w11.cell? ⟨w.heap.size, 0, none⟩ = some (.int .i64 ino1) := HH11.out.1
          have e11 : w11.cell? ⟨w.heap.size, 1, none⟩ = some (.int .i64 kind1) := HH11.out.2.1
          have e12 : w11.cell? ⟨w.heap.size, 2, none⟩ = some (.int .i64 links1) := HH11.out.2.2.1
          have e13 : w11.cell? ⟨w.heap.size, 3, none⟩ = some (.string ⟨text1.toArray⟩) := HH11.out.2.2.2.1
          have e14 : w11.cell? ⟨w.heap.size, 4, none⟩ = some (.slice A1 l1.length c1) := HH11.out.2.2.2.2.1
          have e20 : w11.cell? ⟨w.heap.size + 1, 0, none⟩ = some (.int .i64 ino2) := HH11.out.2.2.2.2.2.1
          have e21 : w11.cell? ⟨w.heap.size + 1, 1, none⟩ = some (.int .i64 kind2) := HH11.out.2.2.2.2.2.2.1
          have e22 : w11.cell? ⟨w.heap.size + 1, 2, none⟩ = some (.int .i64 links2) := HH11.out.2.2.2.2.2.2.2.1
          have e23 : w11.cell? ⟨w.heap.size + 1, 3, none⟩ = some (.string ⟨text2.toArray⟩) := HH11.out.2.2.2.2.2.2.2.2.1
          have e24 : w11.cell? ⟨w.heap.size + 1, 4, none⟩ = some (.slice A2 l2.length c2) := HH11.out.2.2.2.2.2.2.2.2.2.1
          have x0 : w11.cell? ⟨X, 0, none⟩ = some (.int .i64 ino1) := HT11.out.cell 0
          have x1 : w11.cell? ⟨X, 1, none⟩ = some (.int .i64 kind1) := HT11.out.cell 1
          have x2 : w11.cell? ⟨X, 2, none⟩ = some (.int .i64 links1) := HT11.out.cell 2
          have x3 : w11.cell? ⟨X, 3, none⟩ = some (.string ⟨text1.toArray⟩) := HT11.out.cell 3
          have x4 : w11.cell? ⟨X, 4, none⟩ = some (.slice A7 l1.length c7) := HT11.out.cell 4
          have y0 : w11.cell? ⟨w9.heap.size, 0, none⟩ = some (.int .i64 ino2) := HT12.out.cell 0
          have y1 : w11.cell? ⟨w9.heap.size, 1, none⟩ = some (.int .i64 kind2) := HT12.out.cell 1
          have y2 : w11.cell? ⟨w9.heap.size, 2, none⟩ = some (.int .i64 links2) := HT12.out.cell 2
          have y3 : w11.cell? ⟨w9.heap.size, 3, none⟩ = some (.string ⟨text2.toArray⟩) := HT12.out.cell 3
          have y4 : w11.cell? ⟨w9.heap.size, 4, none⟩ = some (.slice A9 l2.length c9) := HT12.out.cell 4
          go_wp2_with fail
          refine (HR2.out w11 HB1011.out).mono ?_
          rintro e w12 ⟨rfl, hb12⟩
          have HB12 := Lib.hid (below_trans (HH11.out.2.2.2.2.2.2.2.2.2.2) hb12 (Below.size (HH11.out.2.2.2.2.2.2.2.2.2.2)))
          clear hb12 e10 e11 e12 e13 e14 e20 e21 e22 e23 e24 x0 x1 x2 x3 x4 y0 y1 y2 y3 y4
          go_wp2_with fail
          go_ret
          exact ⟨rfl, HB12.out⟩
      · have hr2' : rightN ⟨ino2, kind2, links2, text2, l2⟩ = false := by simpa using hr2
        rw [hr1] at HRN1
        rw [hr2'] at HRN2
        clear hr1 hr2 hr2'
        go_enter Try.func8, Try.ntmps8
        go_wp2_with fail
        rw [← HW.out]
        refine (law_shown _).mono ?_
        rintro e w1 ⟨rfl, hb1⟩
        have HT11 := Lib.hid (HT01.out.below hb1)
        have HT12 := Lib.hid (HT02.out.below hb1)
        have HB1 := Lib.hid (below_trans HB0.out hb1 HB0.out.size)
        clear hb1
        have e10 : w1.cell? ⟨w.heap.size, 0, none⟩ = some (.int .i64 ino1) := HT11.out.cell 0
        have e11 : w1.cell? ⟨w.heap.size, 1, none⟩ = some (.int .i64 kind1) := HT11.out.cell 1
        have e12 : w1.cell? ⟨w.heap.size, 2, none⟩ = some (.int .i64 links1) := HT11.out.cell 2
        have e13 : w1.cell? ⟨w.heap.size, 3, none⟩ = some (.string ⟨text1.toArray⟩) := HT11.out.cell 3
        have e14 : w1.cell? ⟨w.heap.size, 4, none⟩ = some (.slice A1 l1.length c1) := HT11.out.cell 4
        have e20 : w1.cell? ⟨w.heap.size + 1, 0, none⟩ = some (.int .i64 ino2) := HT12.out.cell 0
        have e21 : w1.cell? ⟨w.heap.size + 1, 1, none⟩ = some (.int .i64 kind2) := HT12.out.cell 1
        have e22 : w1.cell? ⟨w.heap.size + 1, 2, none⟩ = some (.int .i64 links2) := HT12.out.cell 2
        have e23 : w1.cell? ⟨w.heap.size + 1, 3, none⟩ = some (.string ⟨text2.toArray⟩) := HT12.out.cell 3
        have e24 : w1.cell? ⟨w.heap.size + 1, 4, none⟩ = some (.slice A2 l2.length c2) := HT12.out.cell 4
        go_wp2_with fail
        refine (HRN1.out _ HB1.out).mono ?_
        rintro e w2 ⟨rfl, hb2⟩
        have HT21 := Lib.hid (HT11.out.below hb2)
        have HT22 := Lib.hid (HT12.out.below hb2)
        have HB2 := Lib.hid (below_trans HB1.out hb2 HB1.out.size)
        clear hb2 e10 e11 e12 e13 e14 e20 e21 e22 e23 e24
        have e10 : w2.cell? ⟨w.heap.size, 0, none⟩ = some (.int .i64 ino1) := HT21.out.cell 0
        have e11 : w2.cell? ⟨w.heap.size, 1, none⟩ = some (.int .i64 kind1) := HT21.out.cell 1
        have e12 : w2.cell? ⟨w.heap.size, 2, none⟩ = some (.int .i64 links1) := HT21.out.cell 2
        have e13 : w2.cell? ⟨w.heap.size, 3, none⟩ = some (.string ⟨text1.toArray⟩) := HT21.out.cell 3
        have e14 : w2.cell? ⟨w.heap.size, 4, none⟩ = some (.slice A1 l1.length c1) := HT21.out.cell 4
        have e20 : w2.cell? ⟨w.heap.size + 1, 0, none⟩ = some (.int .i64 ino2) := HT22.out.cell 0
        have e21 : w2.cell? ⟨w.heap.size + 1, 1, none⟩ = some (.int .i64 kind2) := HT22.out.cell 1
        have e22 : w2.cell? ⟨w.heap.size + 1, 2, none⟩ = some (.int .i64 links2) := HT22.out.cell 2
        have e23 : w2.cell? ⟨w.heap.size + 1, 3, none⟩ = some (.string ⟨text2.toArray⟩) := HT22.out.cell 3
        have e24 : w2.cell? ⟨w.heap.size + 1, 4, none⟩ = some (.slice A2 l2.length c2) := HT22.out.cell 4
        go_wp2_with fail
        refine (HRN2.out _ HB2.out).mono ?_
        rintro e w3 ⟨rfl, hb3⟩
        have HT31 := Lib.hid (HT21.out.below hb3)
        have HT32 := Lib.hid (HT22.out.below hb3)
        have HB3 := Lib.hid (below_trans HB2.out hb3 HB2.out.size)
        clear hb3 e10 e11 e12 e13 e14 e20 e21 e22 e23 e24
        have e10 : w3.cell? ⟨w.heap.size, 0, none⟩ = some (.int .i64 ino1) := HT31.out.cell 0
        have e11 : w3.cell? ⟨w.heap.size, 1, none⟩ = some (.int .i64 kind1) := HT31.out.cell 1
        have e12 : w3.cell? ⟨w.heap.size, 2, none⟩ = some (.int .i64 links1) := HT31.out.cell 2
        have e13 : w3.cell? ⟨w.heap.size, 3, none⟩ = some (.string ⟨text1.toArray⟩) := HT31.out.cell 3
        have e14 : w3.cell? ⟨w.heap.size, 4, none⟩ = some (.slice A1 l1.length c1) := HT31.out.cell 4
        have e20 : w3.cell? ⟨w.heap.size + 1, 0, none⟩ = some (.int .i64 ino2) := HT32.out.cell 0
        have e21 : w3.cell? ⟨w.heap.size + 1, 1, none⟩ = some (.int .i64 kind2) := HT32.out.cell 1
        have e22 : w3.cell? ⟨w.heap.size + 1, 2, none⟩ = some (.int .i64 links2) := HT32.out.cell 2
        have e23 : w3.cell? ⟨w.heap.size + 1, 3, none⟩ = some (.string ⟨text2.toArray⟩) := HT32.out.cell 3
        have e24 : w3.cell? ⟨w.heap.size + 1, 4, none⟩ = some (.slice A2 l2.length c2) := HT32.out.cell 4
        go_wp2_with fail
        go_ret
        exact ⟨rfl, HB3.out⟩
    · have hr1' : rightN ⟨ino1, kind1, links1, text1, l1⟩ = false := by simpa using hr1
      rw [hr1'] at HRN1
      clear hr1 hr1'
      go_enter Try.func8, Try.ntmps8
      go_wp2_with fail
      rw [← HW.out]
      refine (law_shown _).mono ?_
      rintro e w1 ⟨rfl, hb1⟩
      have HT11 := Lib.hid (HT01.out.below hb1)
      have HT12 := Lib.hid (HT02.out.below hb1)
      have HB1 := Lib.hid (below_trans HB0.out hb1 HB0.out.size)
      clear hb1
      have e10 : w1.cell? ⟨w.heap.size, 0, none⟩ = some (.int .i64 ino1) := HT11.out.cell 0
      have e11 : w1.cell? ⟨w.heap.size, 1, none⟩ = some (.int .i64 kind1) := HT11.out.cell 1
      have e12 : w1.cell? ⟨w.heap.size, 2, none⟩ = some (.int .i64 links1) := HT11.out.cell 2
      have e13 : w1.cell? ⟨w.heap.size, 3, none⟩ = some (.string ⟨text1.toArray⟩) := HT11.out.cell 3
      have e14 : w1.cell? ⟨w.heap.size, 4, none⟩ = some (.slice A1 l1.length c1) := HT11.out.cell 4
      have e20 : w1.cell? ⟨w.heap.size + 1, 0, none⟩ = some (.int .i64 ino2) := HT12.out.cell 0
      have e21 : w1.cell? ⟨w.heap.size + 1, 1, none⟩ = some (.int .i64 kind2) := HT12.out.cell 1
      have e22 : w1.cell? ⟨w.heap.size + 1, 2, none⟩ = some (.int .i64 links2) := HT12.out.cell 2
      have e23 : w1.cell? ⟨w.heap.size + 1, 3, none⟩ = some (.string ⟨text2.toArray⟩) := HT12.out.cell 3
      have e24 : w1.cell? ⟨w.heap.size + 1, 4, none⟩ = some (.slice A2 l2.length c2) := HT12.out.cell 4
      go_wp2_with fail
      refine (HRN1.out _ HB1.out).mono ?_
      rintro e w2 ⟨rfl, hb2⟩
      have HT21 := Lib.hid (HT11.out.below hb2)
      have HT22 := Lib.hid (HT12.out.below hb2)
      have HB2 := Lib.hid (below_trans HB1.out hb2 HB1.out.size)
      clear hb2 e10 e11 e12 e13 e14 e20 e21 e22 e23 e24
      have e10 : w2.cell? ⟨w.heap.size, 0, none⟩ = some (.int .i64 ino1) := HT21.out.cell 0
      have e11 : w2.cell? ⟨w.heap.size, 1, none⟩ = some (.int .i64 kind1) := HT21.out.cell 1
      have e12 : w2.cell? ⟨w.heap.size, 2, none⟩ = some (.int .i64 links1) := HT21.out.cell 2
      have e13 : w2.cell? ⟨w.heap.size, 3, none⟩ = some (.string ⟨text1.toArray⟩) := HT21.out.cell 3
      have e14 : w2.cell? ⟨w.heap.size, 4, none⟩ = some (.slice A1 l1.length c1) := HT21.out.cell 4
      have e20 : w2.cell? ⟨w.heap.size + 1, 0, none⟩ = some (.int .i64 ino2) := HT22.out.cell 0
      have e21 : w2.cell? ⟨w.heap.size + 1, 1, none⟩ = some (.int .i64 kind2) := HT22.out.cell 1
      have e22 : w2.cell? ⟨w.heap.size + 1, 2, none⟩ = some (.int .i64 links2) := HT22.out.cell 2
      have e23 : w2.cell? ⟨w.heap.size + 1, 3, none⟩ = some (.string ⟨text2.toArray⟩) := HT22.out.cell 3
      have e24 : w2.cell? ⟨w.heap.size + 1, 4, none⟩ = some (.slice A2 l2.length c2) := HT22.out.cell 4
      go_wp2_with fail
      go_ret
      exact ⟨rfl, HB2.out⟩
  · rcases (show 300 < l1.length + l2.length ∨ l1.length + l2.length ≤ 300 ∧ 5000 < text1.length + text2.length from by omega) with h | ⟨h, h'⟩
    · have d1 : decide ((300 : Int) < (l1.length : Int) + (l2.length : Int)) = true := by rw [decide_eq_true_iff]; omega
      clear hsm
      go_enter Try.func8, Try.ntmps8
      go_wp2_with fail
      rw [← HW.out]
      refine (law_shown _).mono ?_
      rintro e w1 ⟨rfl, hb1⟩
      have HT11 := Lib.hid (HT01.out.below hb1)
      have HT12 := Lib.hid (HT02.out.below hb1)
      have HB1 := Lib.hid (below_trans HB0.out hb1 HB0.out.size)
      clear hb1
      have e10 : w1.cell? ⟨w.heap.size, 0, none⟩ = some (.int .i64 ino1) := HT11.out.cell 0
      have e11 : w1.cell? ⟨w.heap.size, 1, none⟩ = some (.int .i64 kind1) := HT11.out.cell 1
      have e12 : w1.cell? ⟨w.heap.size, 2, none⟩ = some (.int .i64 links1) := HT11.out.cell 2
      have e13 : w1.cell? ⟨w.heap.size, 3, none⟩ = some (.string ⟨text1.toArray⟩) := HT11.out.cell 3
      have e14 : w1.cell? ⟨w.heap.size, 4, none⟩ = some (.slice A1 l1.length c1) := HT11.out.cell 4
      have e20 : w1.cell? ⟨w.heap.size + 1, 0, none⟩ = some (.int .i64 ino2) := HT12.out.cell 0
      have e21 : w1.cell? ⟨w.heap.size + 1, 1, none⟩ = some (.int .i64 kind2) := HT12.out.cell 1
      have e22 : w1.cell? ⟨w.heap.size + 1, 2, none⟩ = some (.int .i64 links2) := HT12.out.cell 2
      have e23 : w1.cell? ⟨w.heap.size + 1, 3, none⟩ = some (.string ⟨text2.toArray⟩) := HT12.out.cell 3
      have e24 : w1.cell? ⟨w.heap.size + 1, 4, none⟩ = some (.slice A2 l2.length c2) := HT12.out.cell 4
      go_wp2_with fail
      go_ret
      exact ⟨rfl, HB1.out⟩
    · have d1 : decide ((300 : Int) < (l1.length : Int) + (l2.length : Int)) = false := by rw [decide_eq_false_iff_not]; omega
      have d2 : decide ((5000 : Int) < (text1.length : Int) + (text2.length : Int)) = true := by rw [decide_eq_true_iff]; omega
      clear hsm
      go_enter Try.func8, Try.ntmps8
      go_wp2_with fail
      rw [← HW.out]
      refine (law_shown _).mono ?_
      rintro e w1 ⟨rfl, hb1⟩
      have HT11 := Lib.hid (HT01.out.below hb1)
      have HT12 := Lib.hid (HT02.out.below hb1)
      have HB1 := Lib.hid (below_trans HB0.out hb1 HB0.out.size)
      clear hb1
      have e10 : w1.cell? ⟨w.heap.size, 0, none⟩ = some (.int .i64 ino1) := HT11.out.cell 0
      have e11 : w1.cell? ⟨w.heap.size, 1, none⟩ = some (.int .i64 kind1) := HT11.out.cell 1
      have e12 : w1.cell? ⟨w.heap.size, 2, none⟩ = some (.int .i64 links1) := HT11.out.cell 2
      have e13 : w1.cell? ⟨w.heap.size, 3, none⟩ = some (.string ⟨text1.toArray⟩) := HT11.out.cell 3
      have e14 : w1.cell? ⟨w.heap.size, 4, none⟩ = some (.slice A1 l1.length c1) := HT11.out.cell 4
      have e20 : w1.cell? ⟨w.heap.size + 1, 0, none⟩ = some (.int .i64 ino2) := HT12.out.cell 0
      have e21 : w1.cell? ⟨w.heap.size + 1, 1, none⟩ = some (.int .i64 kind2) := HT12.out.cell 1
      have e22 : w1.cell? ⟨w.heap.size + 1, 2, none⟩ = some (.int .i64 links2) := HT12.out.cell 2
      have e23 : w1.cell? ⟨w.heap.size + 1, 3, none⟩ = some (.string ⟨text2.toArray⟩) := HT12.out.cell 3
      have e24 : w1.cell? ⟨w.heap.size + 1, 4, none⟩ = some (.slice A2 l2.length c2) := HT12.out.cell 4
      go_wp2_with fail
      go_ret
      exact ⟨rfl, HB1.out⟩
theorem own : ownKnob Try.prog.godebug = none := by kernel_rfl
theorem laidOut : laidOutB Try.prog = true := by kernel_rfl
theorem cellscopyhold_api_Node : Try.prog.cellsOf 24 = 5 := by kernel_rfl
theorem cellsint : Try.prog.cellsOf 3 = 1 := by kernel_rfl
theorem cellsstring : Try.prog.cellsOf 9 = 1 := by kernel_rfl
theorem cells__api_Entry : Try.prog.cellsOf 22 = 1 := by kernel_rfl

set_option maxRecDepth 100000 in
set_option maxHeartbeats 1000000 in
theorem lifted (os : Os) (started : os.Started) (H : Type) (enc : TypeId × Value → H) :
    ReturnsInHanded {} Try.checked os 8 .any (Rows.nodeRowsSpec.pre6 enc Try.prog Try.f8 Rows.nodeRowsRow.domain false) (Rows.nodeRowsSpec.post enc Try.prog Try.f8 false true false false) := by
  refine returnsInHanded_of_change_sized (C := Try.checked) own started (by kernel_rfl) Try.func8
    (ChangeSpec.witness6 (enc := enc) (C := Try.checked) false ⟨#[], #[.agg #[.int .i64 0, .int .i64 0, .int .i64 0, .string ByteArray.empty, .slice none 0 0], .agg #[.int .i64 0, .int .i64 0, .int .i64 0, .string ByteArray.empty, .slice none 0 0]], []⟩ 8 (by kernel_rfl) (by kernel_rfl) (by kernel_rfl) (by kernel_rfl)) ?_
  intro W base args ds gs before hval0 hW hcnd hsz0 _
  have hsz : (DataW.weightsEach Try.prog (Try.f8.params.toList ++ []) (ds ++ gs)).all (· ≤ reachBytes) = true := hsz0
  clear hsz0
  have hval : ∀ (j : Nat) t v, Try.f8.params[j]? = some t → args[j]? = some v → Value.okWide Try.prog W .any base t v := hval0
  have hW' := hW
  have hlt := hW.lt
  obtain ⟨p, q, hA0, hV, rfl, hfz, hnd⟩ := hW
  have hA : DataW.TrodAll enc Try.prog W 0 (fun _ => true) true Try.f8.params.toList args.toList ds p := hA0
  rw [Try.params8] at hA hval
  obtain ⟨v0, vs0, d0, ds0, p0, q0, hargs, rfl, rfl, h0, r0⟩ := trodAll_cons hA
  obtain ⟨v1, vs1, d1, ds1, p1, q1, rfl, rfl, rfl, h1, r1⟩ := trodAll_cons r0
  obtain ⟨rfl, rfl, rfl⟩ := trodAll_nil r1
  obtain rfl : args = #[v0, v1] := by cases args; simp_all
  obtain ⟨rfl, rfl⟩ := trodVars_none hV
  obtain ⟨cs0, rfl, hcz0⟩ := okWide_struct Try.underlying24 (hval 0 24 v0 rfl rfl)
  rw [cellscopyhold_api_Node] at hcz0
  obtain ⟨c0_0, c0_1, c0_2, c0_3, c0_4, rfl⟩ := array5_of hcz0
  obtain ⟨fuel0, hf0⟩ := h0
  obtain ⟨xs0, m0, _, hx0, _, hlen0, hfl0⟩ := DataW.trod_struct Try.underlying24 hf0
  obtain ⟨y0_0, y0_1, y0_2, y0_3, y0_4, rfl⟩ := list5 hlen0
  have g0_0 : DataW.trod enc Try.prog W 0 (fun _ => true) true m0 3 [c0_0] = some y0_0 := by have h := hfl0 0 _ rfl; simpa [Value.cells, cellsint] using h
  have g0_1 : DataW.trod enc Try.prog W 0 (fun _ => true) true m0 3 [c0_1] = some y0_1 := by have h := hfl0 1 _ rfl; simpa [Value.cells, cellsint] using h
  have g0_2 : DataW.trod enc Try.prog W 0 (fun _ => true) true m0 3 [c0_2] = some y0_2 := by have h := hfl0 2 _ rfl; simpa [Value.cells, cellsint] using h
  have g0_3 : DataW.trod enc Try.prog W 0 (fun _ => true) true m0 9 [c0_3] = some y0_3 := by have h := hfl0 3 _ rfl; simpa [Value.cells, cellsstring] using h
  have g0_4 : DataW.trod enc Try.prog W 0 (fun _ => true) true m0 22 [c0_4] = some y0_4 := by have h := hfl0 4 _ rfl; simpa [Value.cells, cells__api_Entry] using h
  simp only [Prod.mk.injEq] at hx0
  obtain ⟨rfl, hp0⟩ := hx0
  subst hp0
  obtain ⟨a0_0, ev0_0, ey0_0, w0_0⟩ := DataW.trod_int Try.underlying3 g0_0
  obtain rfl : c0_0 = _ := by simpa using ev0_0
  subst ey0_0
  obtain ⟨a0_1, ev0_1, ey0_1, w0_1⟩ := DataW.trod_int Try.underlying3 g0_1
  obtain rfl : c0_1 = _ := by simpa using ev0_1
  subst ey0_1
  obtain ⟨a0_2, ev0_2, ey0_2, w0_2⟩ := DataW.trod_int Try.underlying3 g0_2
  obtain rfl : c0_2 = _ := by simpa using ev0_2
  subst ey0_2
  obtain ⟨s0_3, ev0_3, ey0_3, w0_3⟩ := DataW.trod_string Try.underlying9 g0_3
  obtain rfl : c0_3 = _ := by simpa using ev0_3
  subst ey0_3
  have z0_3 : s0_3.data.toList.length ≤ 140737488351232 := sized_deep hsz (by rw [Try.params8]; simp [DataW.weightsEach, DataW.weights, Try.underlying24, Try.underlying24])
  obtain ⟨a0_3, rfl⟩ : ∃ l : List UInt8, s0_3 = ⟨l.toArray⟩ := ⟨s0_3.data.toList, rfl⟩
  have hw0_4 : ∀ n ∈ DataW.weights Try.prog 22 y0_4.1, n ≤ 140737488351232 := fun n hn => sized_deep hsz (by rw [Try.params8]; simp [DataW.weightsEach, DataW.weights, Try.underlying24, Try.underlying24, hn])
  obtain ⟨u0_4, a0_4, ev0_4, f0_4_0, f0_4_1, f0_4_2⟩ := open_ents g0_4 (fun x hx => hlt x (by simp [hx])) hw0_4
  obtain rfl : c0_4 = _ := by simpa using ev0_4
  obtain ⟨cs1, rfl, hcz1⟩ := okWide_struct Try.underlying24 (hval 1 24 v1 rfl rfl)
  rw [cellscopyhold_api_Node] at hcz1
  obtain ⟨c1_0, c1_1, c1_2, c1_3, c1_4, rfl⟩ := array5_of hcz1
  obtain ⟨fuel1, hf1⟩ := h1
  obtain ⟨xs1, m1, _, hx1, _, hlen1, hfl1⟩ := DataW.trod_struct Try.underlying24 hf1
  obtain ⟨y1_0, y1_1, y1_2, y1_3, y1_4, rfl⟩ := list5 hlen1
  have g1_0 : DataW.trod enc Try.prog W 0 (fun _ => true) true m1 3 [c1_0] = some y1_0 := by have h := hfl1 0 _ rfl; simpa [Value.cells, cellsint] using h
  have g1_1 : DataW.trod enc Try.prog W 0 (fun _ => true) true m1 3 [c1_1] = some y1_1 := by have h := hfl1 1 _ rfl; simpa [Value.cells, cellsint] using h
  have g1_2 : DataW.trod enc Try.prog W 0 (fun _ => true) true m1 3 [c1_2] = some y1_2 := by have h := hfl1 2 _ rfl; simpa [Value.cells, cellsint] using h
  have g1_3 : DataW.trod enc Try.prog W 0 (fun _ => true) true m1 9 [c1_3] = some y1_3 := by have h := hfl1 3 _ rfl; simpa [Value.cells, cellsstring] using h
  have g1_4 : DataW.trod enc Try.prog W 0 (fun _ => true) true m1 22 [c1_4] = some y1_4 := by have h := hfl1 4 _ rfl; simpa [Value.cells, cells__api_Entry] using h
  simp only [Prod.mk.injEq] at hx1
  obtain ⟨rfl, hp1⟩ := hx1
  subst hp1
  obtain ⟨a1_0, ev1_0, ey1_0, w1_0⟩ := DataW.trod_int Try.underlying3 g1_0
  obtain rfl : c1_0 = _ := by simpa using ev1_0
  subst ey1_0
  obtain ⟨a1_1, ev1_1, ey1_1, w1_1⟩ := DataW.trod_int Try.underlying3 g1_1
  obtain rfl : c1_1 = _ := by simpa using ev1_1
  subst ey1_1
  obtain ⟨a1_2, ev1_2, ey1_2, w1_2⟩ := DataW.trod_int Try.underlying3 g1_2
  obtain rfl : c1_2 = _ := by simpa using ev1_2
  subst ey1_2
  obtain ⟨s1_3, ev1_3, ey1_3, w1_3⟩ := DataW.trod_string Try.underlying9 g1_3
  obtain rfl : c1_3 = _ := by simpa using ev1_3
  subst ey1_3
  have z1_3 : s1_3.data.toList.length ≤ 140737488351232 := sized_deep hsz (by rw [Try.params8]; simp [DataW.weightsEach, DataW.weights, Try.underlying24, Try.underlying24])
  obtain ⟨a1_3, rfl⟩ : ∃ l : List UInt8, s1_3 = ⟨l.toArray⟩ := ⟨s1_3.data.toList, rfl⟩
  have hw1_4 : ∀ n ∈ DataW.weights Try.prog 22 y1_4.1, n ≤ 140737488351232 := fun n hn => sized_deep hsz (by rw [Try.params8]; simp [DataW.weightsEach, DataW.weights, Try.underlying24, Try.underlying24, hn])
  obtain ⟨u1_4, a1_4, ev1_4, f1_4_0, f1_4_1, f1_4_2⟩ := open_ents g1_4 (fun x hx => hlt x (by simp [hx])) hw1_4
  obtain rfl : c1_4 = _ := by simpa using ev1_4
  refine (walk W a0_0 w0_0 a0_1 w0_1 a0_2 w0_2 a0_3 z0_3 c0_4 a0_4 f0_4_0 f0_4_1 f0_4_2 a1_0 w1_0 a1_1 w1_1 a1_2 w1_2 a1_3 z1_3 c1_4 a1_4 f1_4_0 f1_4_1 f1_4_2).mono fun e W' ⟨he, hg⟩ => ?_
  subst he
  exact ⟨_, rfl, Copyhold.law_post laidOut (by kernel_rfl) (by kernel_rfl) Try.underlying4 rfl rfl rfl rfl hW' hg⟩

theorem over : Rows.nodeRowsRow.holds Try.pinned (OpenSpec.ofChange Rows.nodeRowsSpec) :=
  OpenClaim.holds_of_wide 8 Try.f8 rfl rfl rfl rfl rfl rfl rfl ⟨rfl, rfl, rfl, rfl, rfl⟩ rfl rfl rfl rfl rfl (by kernel_rfl) Try.func8 (by kernel_rfl)
    (of_decide_eq_true (by kernel_rfl)) (by unfold Func.isWrapper; first | (rw [if_pos (by decide +kernel)]; kernel_rfl) | (rw [if_neg (by decide +kernel)]; exact ⟨rfl, rfl⟩))
    (fun os started H enc _ => lifted os started H enc)

theorem proved : Rows.NodeRowsSaid :=
  over
end Go.Proofs.Ytoinafcjkbdjnaa.nodeRows
