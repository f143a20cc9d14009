/- Proved: copyholdlaw07.NodeSame returns true for every two nodes, and leaves them as they were: a node is the same as itself, that two are the same hangs on no order of the two, and two right ones have one text just if they are the same. No condition beyond the form's own reach. -/
import Derived.Test.YtoinafcjkbdjnaaNodeTake
import Derived.Test.YtoinafcjkbdjnaaNodeSame2
import Derived.Test.YtoinafcjkbdjnaaLaw
import Derived.IntWalk
import Derived.Deep.RegionHeld3
namespace Go.Proofs.Ytoinafcjkbdjnaa.nodeSame
open Go.ChangeShapes Go.WideShapes Go.ChangeAt Go.RowKit Copyhold Copyhold.Name
open Go.ChangeMaps (open_string shut_string)
set_option linter.unusedVariables false
set_option linter.unusedSimpArgs false

set_option maxRecDepth 100000 in
set_option maxHeartbeats 16000000 in
theorem walk (w : World) (ino1 : Int) (w11 : (Lit.int .i64 ino1).wf = true) (kind1 : Int) (w21 : (Lit.int .i64 kind1).wf = true) (links1 : Int) (w31 : (Lit.int .i64 links1).wf = true) (text1 : List UInt8) (z1 : text1.length ≤ 140737488351232) (lv1 : Value) (l1 : List Ent) (hl1 : Ents w lv1 l1) (hok1 : OkEnts l1) (hn1 : l1.length ≤ 5864062014634) (ino2 : Int) (w12 : (Lit.int .i64 ino2).wf = true) (kind2 : Int) (w22 : (Lit.int .i64 kind2).wf = true) (links2 : Int) (w32 : (Lit.int .i64 links2).wf = true) (text2 : List UInt8) (z2 : text2.length ≤ 140737488351232) (lv2 : Value) (l2 : List Ent) (hl2 : Ents w lv2 l2) (hok2 : OkEnts l2) (hn2 : l2.length ≤ 5864062014634) :
    Calls Try.prog 7 #[.agg #[.int .i64 ino1, .int .i64 kind1, .int .i64 links1, .string ⟨text1.toArray⟩, lv1], .agg #[.int .i64 ino2, .int .i64 kind2, .int .i64 links2, .string ⟨text2.toArray⟩, lv2]] w fun e w' => e = .returned (.bool true) ∧ Below w.heap.size w w' := by
  obtain ⟨A1, c1, rfl, -⟩ := hl1.shape
  have ho1 : OkN ⟨ino1, kind1, links1, text1, l1⟩ := ⟨i64ok_of w11, i64ok_of w21, i64ok_of w31, z1, hok1, hn1⟩
  have HRN1 := Lib.hid (fun W (h : Below w.heap.size w W) => ref07_Right ⟨ino1, kind1, links1, text1, l1⟩ _ W ⟨A1, c1, rfl, hl1.below h⟩ ho1)
  have HNV1 := Lib.hid (fun W (h : Below w.heap.size w W) => (⟨A1, c1, rfl, hl1.below h⟩ : NodeV W (.agg #[.int .i64 ino1, .int .i64 kind1, .int .i64 links1, .string ⟨text1.toArray⟩, .slice A1 l1.length c1]) ⟨ino1, kind1, links1, text1, l1⟩))
  obtain ⟨A2, c2, rfl, -⟩ := hl2.shape
  have ho2 : OkN ⟨ino2, kind2, links2, text2, l2⟩ := ⟨i64ok_of w12, i64ok_of w22, i64ok_of w32, z2, hok2, hn2⟩
  have HRN2 := Lib.hid (fun W (h : Below w.heap.size w W) => ref07_Right ⟨ino2, kind2, links2, text2, l2⟩ _ W ⟨A2, c2, rfl, hl2.below h⟩ ho2)
  have HNV2 := Lib.hid (fun W (h : Below w.heap.size w W) => (⟨A2, c2, rfl, hl2.below h⟩ : NodeV W (.agg #[.int .i64 ino2, .int .i64 kind2, .int .i64 links2, .string ⟨text2.toArray⟩, .slice A2 l2.length c2]) ⟨ino2, kind2, links2, text2, l2⟩))
  obtain ⟨W0, hW0⟩ : ∃ W0, W0 = (w.alloc (.cells #[.int .i64 ino1, .int .i64 kind1, .int .i64 links1, .string ⟨text1.toArray⟩, .slice A1 l1.length c1] 24)).alloc (.cells #[.int .i64 ino2, .int .i64 kind2, .int .i64 links2, .string ⟨text2.toArray⟩, .slice A2 l2.length c2] 24) := ⟨_, rfl⟩
  have hb0 : Below w.heap.size w W0 := by rw [hW0]; exact ((Below.refl _ _).alloc (Nat.le_refl _) _).alloc (by simp) _
  have t01 : TBox W0 w.heap.size 24 #[.int .i64 ino1, .int .i64 kind1, .int .i64 links1, .string ⟨text1.toArray⟩, .slice A1 l1.length c1] := by rw [hW0]; exact (TBox.new _ _ _).below ((Below.refl _ _).alloc (Nat.le_refl _) _)
  have t02 : TBox W0 (w.heap.size + 1) 24 #[.int .i64 ino2, .int .i64 kind2, .int .i64 links2, .string ⟨text2.toArray⟩, .slice A2 l2.length c2] := by
    rw [hW0]
    have h := TBox.new (w.alloc (.cells #[.int .i64 ino1, .int .i64 kind1, .int .i64 links1, .string ⟨text1.toArray⟩, .slice A1 l1.length c1] 24)) 24 #[.int .i64 ino2, .int .i64 kind2, .int .i64 links2, .string ⟨text2.toArray⟩, .slice A2 l2.length c2]
    rw [show (w.alloc (.cells #[.int .i64 ino1, .int .i64 kind1, .int .i64 links1, .string ⟨text1.toArray⟩, .slice A1 l1.length c1] 24)).heap.size = w.heap.size + 1 from by simp] at h
    exact h
  have HT01 := Lib.hid t01
  have HT02 := Lib.hid t02
  have HW := Lib.hid hW0
  have HB0 := Lib.hid hb0
  have HO1 := Lib.hid ho1
  have HO2 := Lib.hid ho2
  clear hl1 hok1 ho1 hl2 hok2 ho2 hW0 hb0 t01 t02 w11 w21 w31 w12 w22 w32
  have HSAA := Lib.hid (fun W (h : Below w.heap.size w W) => node_Same ⟨ino1, kind1, links1, text1, l1⟩ ⟨ino1, kind1, links1, text1, l1⟩ _ _ W (HNV1.out W h) (HNV1.out W h) HO1.out HO1.out)
  have HSBA := Lib.hid (fun W (h : Below w.heap.size w W) => node_Same ⟨ino2, kind2, links2, text2, l2⟩ ⟨ino1, kind1, links1, text1, l1⟩ _ _ W (HNV2.out W h) (HNV1.out W h) HO2.out HO1.out)
  have HSAB := Lib.hid (fun W (h : Below w.heap.size w W) => node_Same ⟨ino1, kind1, links1, text1, l1⟩ ⟨ino2, kind2, links2, text2, l2⟩ _ _ W (HNV1.out W h) (HNV2.out W h) HO1.out HO2.out)
  rw [sameN_self] at HSAA
  rw [sameN_comm] at HSBA
  by_cases hsm : l1.length + l2.length ≤ 300 ∧ text1.length + text2.length ≤ 5000
  · obtain ⟨s1, s2⟩ := hsm
    have d1 : decide ((300 : Int) < (l1.length : Int) + (l2.length : Int)) = false := by rw [decide_eq_false_iff_not]; omega
    have d2 : decide ((5000 : Int) < (text1.length : Int) + (text2.length : Int)) = false := by rw [decide_eq_false_iff_not]; omega
    have hfin : rightN ⟨ino1, kind1, links1, text1, l1⟩ = true → rightN ⟨ino2, kind2, links2, text2, l2⟩ = true → ∃ B1 B2 : List UInt8, B1.length ≤ 2000000000000 ∧ B2.length ≤ 2000000000000 ∧ (B1 == B2) = sameN ⟨ino1, kind1, links1, text1, l1⟩ ⟨ino2, kind2, links2, text2, l2⟩ ∧ (∀ W, Below w.heap.size w W → Calls Try.prog 18 #[.agg #[.int .i64 ino1, .int .i64 kind1, .int .i64 links1, .string ⟨text1.toArray⟩, .slice A1 l1.length c1]] W fun e w' => e = .returned (.string ⟨B1.toArray⟩) ∧ Below W.heap.size W w') ∧ (∀ W, Below w.heap.size w W → Calls Try.prog 18 #[.agg #[.int .i64 ino2, .int .i64 kind2, .int .i64 links2, .string ⟨text2.toArray⟩, .slice A2 l2.length c2]] W fun e w' => e = .returned (.string ⟨B2.toArray⟩) ∧ Below W.heap.size W w') := by
      intro hr1 hr2
      obtain ⟨r11, r12, r13⟩ := right_parts hr1 HO1.out
      obtain ⟨r21, r22, r23⟩ := right_parts hr2 HO2.out
      refine ⟨nodeB ⟨ino1, kind1, links1, text1, l1⟩, nodeB ⟨ino2, kind2, links2, text2, l2⟩, nodeB_size _ HO1.out (fun x hx => by have := (r13 x hx).1; omega) (by simp only; omega) (by simp only; omega), nodeB_size _ HO2.out (fun x hx => by have := (r23 x hx).1; omega) (by simp only; omega) (by simp only; omega), ?_, fun W h => node_Text ⟨ino1, kind1, links1, text1, l1⟩ _ W (HNV1.out W h) HO1.out (fun x hx => by have := (r13 x hx).1; omega) (by simp only; omega) (by simp only; omega), fun W h => node_Text ⟨ino2, kind2, links2, text2, l2⟩ _ W (HNV2.out W h) HO2.out (fun x hx => by have := (r23 x hx).1; omega) (by simp only; omega) (by simp only; omega)⟩
      rw [Bool.eq_iff_iff, sameN_iff, beq_iff_eq]
      exact ⟨nodeB_inj hr1 hr2 HO1.out HO2.out, fun h => by rw [h]⟩
    have HFIN := Lib.hid hfin
    clear hfin
    generalize sameN ⟨ino1, kind1, links1, text1, l1⟩ ⟨ino2, kind2, links2, text2, l2⟩ = s at *
    generalize rightN ⟨ino1, kind1, links1, text1, l1⟩ = r1 at *
    generalize rightN ⟨ino2, kind2, links2, text2, l2⟩ = r2 at *
    have HSA : Hid (∀ (W : World) (ob : Obj), (fun W => W.cell? ⟨w.heap.size, 0, none⟩ = some (.int .i64 ino1) ∧ W.cell? ⟨w.heap.size, 1, none⟩ = some (.int .i64 kind1) ∧ W.cell? ⟨w.heap.size, 2, none⟩ = some (.int .i64 links1) ∧ W.cell? ⟨w.heap.size, 3, none⟩ = some (.string ⟨text1.toArray⟩) ∧ W.cell? ⟨w.heap.size, 4, none⟩ = some (.slice A1 l1.length c1) ∧ W.cell? ⟨w.heap.size + 1, 0, none⟩ = some (.int .i64 ino2) ∧ W.cell? ⟨w.heap.size + 1, 1, none⟩ = some (.int .i64 kind2) ∧ W.cell? ⟨w.heap.size + 1, 2, none⟩ = some (.int .i64 links2) ∧ W.cell? ⟨w.heap.size + 1, 3, none⟩ = some (.string ⟨text2.toArray⟩) ∧ W.cell? ⟨w.heap.size + 1, 4, none⟩ = some (.slice A2 l2.length c2) ∧ Below w.heap.size w W) W → (fun W => W.cell? ⟨w.heap.size, 0, none⟩ = some (.int .i64 ino1) ∧ W.cell? ⟨w.heap.size, 1, none⟩ = some (.int .i64 kind1) ∧ W.cell? ⟨w.heap.size, 2, none⟩ = some (.int .i64 links1) ∧ W.cell? ⟨w.heap.size, 3, none⟩ = some (.string ⟨text1.toArray⟩) ∧ W.cell? ⟨w.heap.size, 4, none⟩ = some (.slice A1 l1.length c1) ∧ W.cell? ⟨w.heap.size + 1, 0, none⟩ = some (.int .i64 ino2) ∧ W.cell? ⟨w.heap.size + 1, 1, none⟩ = some (.int .i64 kind2) ∧ W.cell? ⟨w.heap.size + 1, 2, none⟩ = some (.int .i64 links2) ∧ W.cell? ⟨w.heap.size + 1, 3, none⟩ = some (.string ⟨text2.toArray⟩) ∧ W.cell? ⟨w.heap.size + 1, 4, none⟩ = some (.slice A2 l2.length c2) ∧ Below w.heap.size w W) (W.alloc ob)) := Lib.hid (fun W ob h => ⟨cell_alloc _ h.1, cell_alloc _ h.2.1, cell_alloc _ h.2.2.1, cell_alloc _ h.2.2.2.1, cell_alloc _ h.2.2.2.2.1, cell_alloc _ h.2.2.2.2.2.1, cell_alloc _ h.2.2.2.2.2.2.1, cell_alloc _ h.2.2.2.2.2.2.2.1, cell_alloc _ h.2.2.2.2.2.2.2.2.1, cell_alloc _ h.2.2.2.2.2.2.2.2.2.1, Below.alloc h.2.2.2.2.2.2.2.2.2.2 (Below.size h.2.2.2.2.2.2.2.2.2.2) _⟩)
    have HSB : Hid (∀ (W W2 : World), (fun W => W.cell? ⟨w.heap.size, 0, none⟩ = some (.int .i64 ino1) ∧ W.cell? ⟨w.heap.size, 1, none⟩ = some (.int .i64 kind1) ∧ W.cell? ⟨w.heap.size, 2, none⟩ = some (.int .i64 links1) ∧ W.cell? ⟨w.heap.size, 3, none⟩ = some (.string ⟨text1.toArray⟩) ∧ W.cell? ⟨w.heap.size, 4, none⟩ = some (.slice A1 l1.length c1) ∧ W.cell? ⟨w.heap.size + 1, 0, none⟩ = some (.int .i64 ino2) ∧ W.cell? ⟨w.heap.size + 1, 1, none⟩ = some (.int .i64 kind2) ∧ W.cell? ⟨w.heap.size + 1, 2, none⟩ = some (.int .i64 links2) ∧ W.cell? ⟨w.heap.size + 1, 3, none⟩ = some (.string ⟨text2.toArray⟩) ∧ W.cell? ⟨w.heap.size + 1, 4, none⟩ = some (.slice A2 l2.length c2) ∧ Below w.heap.size w W) W → Below W.heap.size W W2 → (fun W => W.cell? ⟨w.heap.size, 0, none⟩ = some (.int .i64 ino1) ∧ W.cell? ⟨w.heap.size, 1, none⟩ = some (.int .i64 kind1) ∧ W.cell? ⟨w.heap.size, 2, none⟩ = some (.int .i64 links1) ∧ W.cell? ⟨w.heap.size, 3, none⟩ = some (.string ⟨text1.toArray⟩) ∧ W.cell? ⟨w.heap.size, 4, none⟩ = some (.slice A1 l1.length c1) ∧ W.cell? ⟨w.heap.size + 1, 0, none⟩ = some (.int .i64 ino2) ∧ W.cell? ⟨w.heap.size + 1, 1, none⟩ = some (.int .i64 kind2) ∧ W.cell? ⟨w.heap.size + 1, 2, none⟩ = some (.int .i64 links2) ∧ W.cell? ⟨w.heap.size + 1, 3, none⟩ = some (.string ⟨text2.toArray⟩) ∧ W.cell? ⟨w.heap.size + 1, 4, none⟩ = some (.slice A2 l2.length c2) ∧ Below w.heap.size w W) W2) := Lib.hid (fun W W2 h hb => ⟨cell_keep hb h.1, cell_keep hb h.2.1, cell_keep hb h.2.2.1, cell_keep hb h.2.2.2.1, cell_keep hb h.2.2.2.2.1, cell_keep hb h.2.2.2.2.2.1, cell_keep hb h.2.2.2.2.2.2.1, cell_keep hb h.2.2.2.2.2.2.2.1, cell_keep hb h.2.2.2.2.2.2.2.2.1, cell_keep hb h.2.2.2.2.2.2.2.2.2.1, below_trans h.2.2.2.2.2.2.2.2.2.2 hb (Below.size h.2.2.2.2.2.2.2.2.2.2)⟩)
    have HSD : Hid (∀ (W : World), (fun W => W.cell? ⟨w.heap.size, 0, none⟩ = some (.int .i64 ino1) ∧ W.cell? ⟨w.heap.size, 1, none⟩ = some (.int .i64 kind1) ∧ W.cell? ⟨w.heap.size, 2, none⟩ = some (.int .i64 links1) ∧ W.cell? ⟨w.heap.size, 3, none⟩ = some (.string ⟨text1.toArray⟩) ∧ W.cell? ⟨w.heap.size, 4, none⟩ = some (.slice A1 l1.length c1) ∧ W.cell? ⟨w.heap.size + 1, 0, none⟩ = some (.int .i64 ino2) ∧ W.cell? ⟨w.heap.size + 1, 1, none⟩ = some (.int .i64 kind2) ∧ W.cell? ⟨w.heap.size + 1, 2, none⟩ = some (.int .i64 links2) ∧ W.cell? ⟨w.heap.size + 1, 3, none⟩ = some (.string ⟨text2.toArray⟩) ∧ W.cell? ⟨w.heap.size + 1, 4, none⟩ = some (.slice A2 l2.length c2) ∧ Below w.heap.size w W) W → (fun W => W.cell? ⟨w.heap.size, 0, none⟩ = some (.int .i64 ino1) ∧ W.cell? ⟨w.heap.size, 1, none⟩ = some (.int .i64 kind1) ∧ W.cell? ⟨w.heap.size, 2, none⟩ = some (.int .i64 links1) ∧ W.cell? ⟨w.heap.size, 3, none⟩ = some (.string ⟨text1.toArray⟩) ∧ W.cell? ⟨w.heap.size, 4, none⟩ = some (.slice A1 l1.length c1) ∧ W.cell? ⟨w.heap.size + 1, 0, none⟩ = some (.int .i64 ino2) ∧ W.cell? ⟨w.heap.size + 1, 1, none⟩ = some (.int .i64 kind2) ∧ W.cell? ⟨w.heap.size + 1, 2, none⟩ = some (.int .i64 links2) ∧ W.cell? ⟨w.heap.size + 1, 3, none⟩ = some (.string ⟨text2.toArray⟩) ∧ W.cell? ⟨w.heap.size + 1, 4, none⟩ = some (.slice A2 l2.length c2) ∧ Below w.heap.size w W) W.drew) := Lib.hid (fun W h => ⟨h.1, h.2.1, h.2.2.1, h.2.2.2.1, h.2.2.2.2.1, h.2.2.2.2.2.1, h.2.2.2.2.2.2.1, h.2.2.2.2.2.2.2.1, h.2.2.2.2.2.2.2.2.1, h.2.2.2.2.2.2.2.2.2.1, below_dn h.2.2.2.2.2.2.2.2.2.2 1⟩)
    cases r1
    · go_enter Try.func7, Try.ntmps7
      go_wp2_with fail
      rw [← HW.out]
      refine (law_shown _).mono ?_
      rintro e w1 ⟨rfl, hb1⟩
      have HT11 := Lib.hid (HT01.out.below hb1)
      have HT12 := Lib.hid (HT02.out.below hb1)
      have HB1 := Lib.hid (below_trans HB0.out hb1 HB0.out.size)
      clear hb1
      have e10 : w1.cell? ⟨w.heap.size, 0, none⟩ = some (.int .i64 ino1) := HT11.out.cell 0
      have e11 : w1.cell? ⟨w.heap.size, 1, none⟩ = some (.int .i64 kind1) := HT11.out.cell 1
      have e12 : w1.cell? ⟨w.heap.size, 2, none⟩ = some (.int .i64 links1) := HT11.out.cell 2
      have e13 : w1.cell? ⟨w.heap.size, 3, none⟩ = some (.string ⟨text1.toArray⟩) := HT11.out.cell 3
      have e14 : w1.cell? ⟨w.heap.size, 4, none⟩ = some (.slice A1 l1.length c1) := HT11.out.cell 4
      have e20 : w1.cell? ⟨w.heap.size + 1, 0, none⟩ = some (.int .i64 ino2) := HT12.out.cell 0
      have e21 : w1.cell? ⟨w.heap.size + 1, 1, none⟩ = some (.int .i64 kind2) := HT12.out.cell 1
      have e22 : w1.cell? ⟨w.heap.size + 1, 2, none⟩ = some (.int .i64 links2) := HT12.out.cell 2
      have e23 : w1.cell? ⟨w.heap.size + 1, 3, none⟩ = some (.string ⟨text2.toArray⟩) := HT12.out.cell 3
      have e24 : w1.cell? ⟨w.heap.size + 1, 4, none⟩ = some (.slice A2 l2.length c2) := HT12.out.cell 4
      go_wp2_with fail
      refine (HSAB.out _ HB1.out).mono ?_
      rintro e w2 ⟨rfl, hb2⟩
      have HT21 := Lib.hid (HT11.out.below hb2)
      have HT22 := Lib.hid (HT12.out.below hb2)
      have HB2 := Lib.hid (below_trans HB1.out hb2 HB1.out.size)
      clear hb2 e10 e11 e12 e13 e14 e20 e21 e22 e23 e24
      have e10 : w2.cell? ⟨w.heap.size, 0, none⟩ = some (.int .i64 ino1) := HT21.out.cell 0
      have e11 : w2.cell? ⟨w.heap.size, 1, none⟩ = some (.int .i64 kind1) := HT21.out.cell 1
      have e12 : w2.cell? ⟨w.heap.size, 2, none⟩ = some (.int .i64 links1) := HT21.out.cell 2
      have e13 : w2.cell? ⟨w.heap.size, 3, none⟩ = some (.string ⟨text1.toArray⟩) := HT21.out.cell 3
      have e14 : w2.cell? ⟨w.heap.size, 4, none⟩ = some (.slice A1 l1.length c1) := HT21.out.cell 4
      have e20 : w2.cell? ⟨w.heap.size + 1, 0, none⟩ = some (.int .i64 ino2) := HT22.out.cell 0
      have e21 : w2.cell? ⟨w.heap.size + 1, 1, none⟩ = some (.int .i64 kind2) := HT22.out.cell 1
      have e22 : w2.cell? ⟨w.heap.size + 1, 2, none⟩ = some (.int .i64 links2) := HT22.out.cell 2
      have e23 : w2.cell? ⟨w.heap.size + 1, 3, none⟩ = some (.string ⟨text2.toArray⟩) := HT22.out.cell 3
      have e24 : w2.cell? ⟨w.heap.size + 1, 4, none⟩ = some (.slice A2 l2.length c2) := HT22.out.cell 4
      go_wp2_with fail
      refine (HRN1.out _ HB2.out).mono ?_
      rintro e w3 ⟨rfl, hb3⟩
      have HT31 := Lib.hid (HT21.out.below hb3)
      have HT32 := Lib.hid (HT22.out.below hb3)
      have HB3 := Lib.hid (below_trans HB2.out hb3 HB2.out.size)
      clear hb3 e10 e11 e12 e13 e14 e20 e21 e22 e23 e24
      have e10 : w3.cell? ⟨w.heap.size, 0, none⟩ = some (.int .i64 ino1) := HT31.out.cell 0
      have e11 : w3.cell? ⟨w.heap.size, 1, none⟩ = some (.int .i64 kind1) := HT31.out.cell 1
      have e12 : w3.cell? ⟨w.heap.size, 2, none⟩ = some (.int .i64 links1) := HT31.out.cell 2
      have e13 : w3.cell? ⟨w.heap.size, 3, none⟩ = some (.string ⟨text1.toArray⟩) := HT31.out.cell 3
      have e14 : w3.cell? ⟨w.heap.size, 4, none⟩ = some (.slice A1 l1.length c1) := HT31.out.cell 4
      have e20 : w3.cell? ⟨w.heap.size + 1, 0, none⟩ = some (.int .i64 ino2) := HT32.out.cell 0
      have e21 : w3.cell? ⟨w.heap.size + 1, 1, none⟩ = some (.int .i64 kind2) := HT32.out.cell 1
      have e22 : w3.cell? ⟨w.heap.size + 1, 2, none⟩ = some (.int .i64 links2) := HT32.out.cell 2
      have e23 : w3.cell? ⟨w.heap.size + 1, 3, none⟩ = some (.string ⟨text2.toArray⟩) := HT32.out.cell 3
      have e24 : w3.cell? ⟨w.heap.size + 1, 4, none⟩ = some (.slice A2 l2.length c2) := HT32.out.cell 4
      go_wp2_with fail
      have HBX := Lib.hid HB3.out
      refine wp_region_held_drew (S := fun W => W.cell? ⟨w.heap.size, 0, none⟩ = some (.int .i64 ino1) ∧ W.cell? ⟨w.heap.size, 1, none⟩ = some (.int .i64 kind1) ∧ W.cell? ⟨w.heap.size, 2, none⟩ = some (.int .i64 links1) ∧ W.cell? ⟨w.heap.size, 3, none⟩ = some (.string ⟨text1.toArray⟩) ∧ W.cell? ⟨w.heap.size, 4, none⟩ = some (.slice A1 l1.length c1) ∧ W.cell? ⟨w.heap.size + 1, 0, none⟩ = some (.int .i64 ino2) ∧ W.cell? ⟨w.heap.size + 1, 1, none⟩ = some (.int .i64 kind2) ∧ W.cell? ⟨w.heap.size + 1, 2, none⟩ = some (.int .i64 links2) ∧ W.cell? ⟨w.heap.size + 1, 3, none⟩ = some (.string ⟨text2.toArray⟩) ∧ W.cell? ⟨w.heap.size + 1, 4, none⟩ = some (.slice A2 l2.length c2) ∧ Below w.heap.size w W) (by kernel_rfl) (HSD.out _ ⟨e10, e11, e12, e13, e14, e20, e21, e22, e23, e24, HBX.out⟩) (fun hHeld => ?_)
      refine wpAnyH_take (i := 0) (v := ?_) rfl (by kernel_rfl) (by kernel_rfl) (by kernel_rfl) (fun _ _ _ h => h) (Or.inl ⟨by rfl, ?_⟩) (by assumption) ?_
      rotate_left
      · intro w hSw
        try dsimp only at hSw
        go_simp
        try with_reducible rfl
      rotate_left
      try simp only [Act.put, List.setIfInBounds_toArray, List.set_cons_zero, List.set_cons_succ, List.getElem_toArray, List.getElem_cons_zero, List.getElem_cons_succ]
      refine wpAnyH_take (i := 1) (v := ?_) rfl (by kernel_rfl) (by kernel_rfl) (by kernel_rfl) (fun _ _ _ h => h) (Or.inl ⟨by rfl, ?_⟩) (by assumption) ?_
      rotate_left
      · intro w hSw
        try dsimp only at hSw
        go_simp
        try with_reducible rfl
      rotate_left
      try simp only [Act.put, List.setIfInBounds_toArray, List.set_cons_zero, List.set_cons_succ, List.getElem_toArray, List.getElem_cons_zero, List.getElem_cons_succ]
      refine wpAnyH_take (i := 2) (v := ?_) rfl (by kernel_rfl) (by kernel_rfl) (by kernel_rfl) (fun _ _ _ h => h) (Or.inl ⟨by rfl, ?_⟩) (by assumption) ?_
      rotate_left
      · intro w hSw
        try dsimp only at hSw
        go_simp
        try with_reducible rfl
      rotate_left
      try simp only [Act.put, List.setIfInBounds_toArray, List.set_cons_zero, List.set_cons_succ, List.getElem_toArray, List.getElem_cons_zero, List.getElem_cons_succ]
      refine wpAnyH_take (i := 3) (v := ?_) rfl (by kernel_rfl) (by kernel_rfl) (by kernel_rfl) (fun _ _ _ h => h) (Or.inl ⟨by rfl, ?_⟩) (by assumption) ?_
      rotate_left
      · intro w hSw
        try dsimp only at hSw
        go_simp
        try with_reducible rfl
      rotate_left
      try simp only [Act.put, List.setIfInBounds_toArray, List.set_cons_zero, List.set_cons_succ, List.getElem_toArray, List.getElem_cons_zero, List.getElem_cons_succ]
      refine wpAnyH_ready (rs := [4]) (by kernel_rfl) (by simp) ?_
      refine (AllReadyH.cons rfl (fun K hK => ?_) AllReadyH.nil)
      rw [if_pos (by rfl)]
      go_wp2_with fail
      refine (HSAA.out _ (hHeld.2.2.2.2.2.2.2.2.2.2)).mono ?_
      rintro e w7 ⟨rfl, hb7⟩
      replace hHeld := HSB.out _ _ hHeld hb7
      clear hb7
      refine hK.out _ _ hHeld (fun _ => ?_)
      clear hK K
      try simp only [Act.put, List.setIfInBounds_toArray, List.set_cons_zero, List.set_cons_succ, List.getElem_toArray, List.getElem_cons_zero, List.getElem_cons_succ]
      refine wpAnyH_take (i := 5) (v := ?_) rfl (by kernel_rfl) (by kernel_rfl) (by kernel_rfl) (fun _ _ _ h => h) (Or.inl ⟨by rfl, ?_⟩) (by assumption) ?_
      rotate_left
      · intro w hSw
        try dsimp only at hSw
        go_simp
        try with_reducible rfl
      rotate_left
      try simp only [Act.put, List.setIfInBounds_toArray, List.set_cons_zero, List.set_cons_succ, List.getElem_toArray, List.getElem_cons_zero, List.getElem_cons_succ]
      refine wpAnyH_take (i := 6) (v := ?_) rfl (by kernel_rfl) (by kernel_rfl) (by kernel_rfl) (fun _ _ _ h => h) (Or.inl ⟨by rfl, ?_⟩) (by assumption) ?_
      rotate_left
      · intro w hSw
        try dsimp only at hSw
        go_simp
        try with_reducible rfl
      rotate_left
      try simp only [Act.put, List.setIfInBounds_toArray, List.set_cons_zero, List.set_cons_succ, List.getElem_toArray, List.getElem_cons_zero, List.getElem_cons_succ]
      refine wpAnyH_take (i := 7) (v := ?_) rfl (by kernel_rfl) (by kernel_rfl) (by kernel_rfl) (fun _ _ _ h => h) (Or.inl ⟨by rfl, ?_⟩) (by assumption) ?_
      rotate_left
      · intro w hSw
        try dsimp only at hSw
        go_simp
        try with_reducible rfl
      rotate_left
      try simp only [Act.put, List.setIfInBounds_toArray, List.set_cons_zero, List.set_cons_succ, List.getElem_toArray, List.getElem_cons_zero, List.getElem_cons_succ]
      refine wpAnyH_take (i := 8) (v := ?_) rfl (by kernel_rfl) (by kernel_rfl) (by kernel_rfl) (fun _ _ _ h => h) (Or.inl ⟨by rfl, ?_⟩) (by assumption) ?_
      rotate_left
      · intro w hSw
        try dsimp only at hSw
        go_simp
        try with_reducible rfl
      rotate_left
      try simp only [Act.put, List.setIfInBounds_toArray, List.set_cons_zero, List.set_cons_succ, List.getElem_toArray, List.getElem_cons_zero, List.getElem_cons_succ]
      refine wpAnyH_take (i := 10) (v := ?_) rfl (by kernel_rfl) (by kernel_rfl) (by kernel_rfl) (fun _ _ _ h => h) (Or.inl ⟨by rfl, ?_⟩) (by assumption) ?_
      rotate_left
      · intro w hSw
        try dsimp only at hSw
        go_simp
        try with_reducible rfl
      rotate_left
      try simp only [Act.put, List.setIfInBounds_toArray, List.set_cons_zero, List.set_cons_succ, List.getElem_toArray, List.getElem_cons_zero, List.getElem_cons_succ]
      refine wpAnyH_ready (rs := [9]) (by kernel_rfl) (by simp) ?_
      refine (AllReadyH.cons rfl (fun K hK => ?_) AllReadyH.nil)
      rw [if_pos (by rfl)]
      go_wp2_with fail
      refine (HSBA.out _ (hHeld.2.2.2.2.2.2.2.2.2.2)).mono ?_
      rintro e w7 ⟨rfl, hb7⟩
      replace hHeld := HSB.out _ _ hHeld hb7
      clear hb7
      refine hK.out _ _ hHeld (fun _ => ?_)
      clear hK K
      try simp only [Act.put, List.setIfInBounds_toArray, List.set_cons_zero, List.set_cons_succ, List.getElem_toArray, List.getElem_cons_zero, List.getElem_cons_succ]
      refine wpAnyH_take (i := 11) (v := ?_) rfl (by kernel_rfl) (by kernel_rfl) (by kernel_rfl) (fun _ _ _ h => h) (Or.inl ⟨by rfl, ?_⟩) (by assumption) ?_
      rotate_left
      · intro w hSw
        try dsimp only at hSw
        go_simp
        try with_reducible rfl
      rotate_left
      try simp only [Act.put, List.setIfInBounds_toArray, List.set_cons_zero, List.set_cons_succ, List.getElem_toArray, List.getElem_cons_zero, List.getElem_cons_succ]
      refine wpAnyH_take (i := 12) (v := ?_) rfl (by kernel_rfl) (by kernel_rfl) (by kernel_rfl) (fun _ _ _ h => h) (Or.inl ⟨by rfl, ?_⟩) (by assumption) ?_
      rotate_left
      · intro w hSw
        try dsimp only at hSw
        go_simp
        try with_reducible rfl
      rotate_left
      try simp only [Act.put, List.setIfInBounds_toArray, List.set_cons_zero, List.set_cons_succ, List.getElem_toArray, List.getElem_cons_zero, List.getElem_cons_succ]
      refine wpAnyH_take (i := 13) (v := ?_) rfl (by kernel_rfl) (by kernel_rfl) (by kernel_rfl) (fun _ _ _ h => h) (Or.inl ⟨by rfl, ?_⟩) (by assumption) ?_
      rotate_left
      · intro w hSw
        try dsimp only at hSw
        go_simp
        try with_reducible rfl
      rotate_left
      try simp only [Act.put, List.setIfInBounds_toArray, List.set_cons_zero, List.set_cons_succ, List.getElem_toArray, List.getElem_cons_zero, List.getElem_cons_succ]
      refine wpAnyH_take (i := 14) (v := ?_) rfl (by kernel_rfl) (by kernel_rfl) (by kernel_rfl) (fun _ _ _ h => h) (Or.inl ⟨by rfl, ?_⟩) (by assumption) ?_
      rotate_left
      · intro w hSw
        try dsimp only at hSw
        go_simp
        try with_reducible rfl
      rotate_left
      try simp only [Act.put, List.setIfInBounds_toArray, List.set_cons_zero, List.set_cons_succ, List.getElem_toArray, List.getElem_cons_zero, List.getElem_cons_succ]
      refine wpAnyH_take (i := 15) (v := ?_) rfl (by kernel_rfl) (by kernel_rfl) (by kernel_rfl) (fun _ _ _ h => h) (Or.inl ⟨by rfl, ?_⟩) (by assumption) ?_
      rotate_left
      · intro w hSw
        try dsimp only at hSw
        go_simp
        try with_reducible rfl
      rotate_left
      try simp only [Act.put, List.setIfInBounds_toArray, List.set_cons_zero, List.set_cons_succ, List.getElem_toArray, List.getElem_cons_zero, List.getElem_cons_succ]
      refine wpAnyH_take (i := 16) (v := ?_) rfl (by kernel_rfl) (by kernel_rfl) (by kernel_rfl) (fun _ _ _ h => h) (Or.inl ⟨by rfl, ?_⟩) (by assumption) ?_
      rotate_left
      · intro w hSw
        try dsimp only at hSw
        go_simp
        try with_reducible rfl
      rotate_left
      try simp only [Act.put, List.setIfInBounds_toArray, List.set_cons_zero, List.set_cons_succ, List.getElem_toArray, List.getElem_cons_zero, List.getElem_cons_succ]
      refine wpAnyH_take (i := 17) (v := undef) rfl (by kernel_rfl) (by kernel_rfl) (by kernel_rfl) (fun _ _ _ h => h) (Or.inr ⟨by rfl, rfl⟩) (by assumption) ?_
      try simp only [Act.put, List.setIfInBounds_toArray, List.set_cons_zero, List.set_cons_succ, List.getElem_toArray, List.getElem_cons_zero, List.getElem_cons_succ]
      refine wpAnyH_take (i := 19) (v := undef) rfl (by kernel_rfl) (by kernel_rfl) (by kernel_rfl) (fun _ _ _ h => h) (Or.inr ⟨by rfl, rfl⟩) (by assumption) ?_
      try simp only [Act.put, List.setIfInBounds_toArray, List.set_cons_zero, List.set_cons_succ, List.getElem_toArray, List.getElem_cons_zero, List.getElem_cons_succ]
      refine wpAnyH_take (i := 22) (v := undef) rfl (by kernel_rfl) (by kernel_rfl) (by kernel_rfl) (fun _ _ _ h => h) (Or.inr ⟨by rfl, rfl⟩) (by assumption) ?_
      try simp only [Act.put, List.setIfInBounds_toArray, List.set_cons_zero, List.set_cons_succ, List.getElem_toArray, List.getElem_cons_zero, List.getElem_cons_succ]
      refine wpAnyH_ready (rs := [18]) (by kernel_rfl) (by simp) ?_
      refine (AllReadyH.cons rfl (fun K hK => ?_) AllReadyH.nil)
      rw [if_neg (by intro h; exact absurd (show false = true from h) (by decide))]
      refine hK.out _ _ hHeld (fun _ => ?_)
      clear hK K
      try simp only [Act.put, List.setIfInBounds_toArray, List.set_cons_zero, List.set_cons_succ, List.getElem_toArray, List.getElem_cons_zero, List.getElem_cons_succ]
      refine wpAnyH_ready (rs := [20]) (by kernel_rfl) (by simp) ?_
      refine (AllReadyH.cons rfl (fun K hK => ?_) AllReadyH.nil)
      rw [if_neg (by intro h; exact absurd (show false = true from h) (by decide))]
      refine hK.out _ _ hHeld (fun _ => ?_)
      clear hK K
      try simp only [Act.put, List.setIfInBounds_toArray, List.set_cons_zero, List.set_cons_succ, List.getElem_toArray, List.getElem_cons_zero, List.getElem_cons_succ]
      refine wpAnyH_take (i := 21) (v := undef) rfl (by kernel_rfl) (by kernel_rfl) (by kernel_rfl) (fun _ _ _ h => h) (Or.inr ⟨by rfl, rfl⟩) (by assumption) ?_
      try simp only [Act.put, List.setIfInBounds_toArray, List.set_cons_zero, List.set_cons_succ, List.getElem_toArray, List.getElem_cons_zero, List.getElem_cons_succ]
      refine wpAnyH_take (i := 23) (v := undef) rfl (by kernel_rfl) (by kernel_rfl) (by kernel_rfl) (fun _ _ _ h => h) (Or.inr ⟨by rfl, rfl⟩) (by assumption) ?_
      try simp only [Act.put, List.setIfInBounds_toArray, List.set_cons_zero, List.set_cons_succ, List.getElem_toArray, List.getElem_cons_zero, List.getElem_cons_succ]
      refine wpAnyH_take (i := 24) (v := ?_) rfl (by kernel_rfl) (by kernel_rfl) (by kernel_rfl) (fun _ _ _ h => h) (Or.inl ⟨by rfl, ?_⟩) (by assumption) ?_
      rotate_left
      · intro w hSw
        try dsimp only at hSw
        go_simp
        try with_reducible rfl
      rotate_left
      try simp only [Act.put, List.setIfInBounds_toArray, List.set_cons_zero, List.set_cons_succ, List.getElem_toArray, List.getElem_cons_zero, List.getElem_cons_succ]
      refine wpAnyH_take (i := 25) (v := ?_) rfl (by kernel_rfl) (by kernel_rfl) (by kernel_rfl) (fun _ _ _ h => h) (Or.inl ⟨by rfl, ?_⟩) (by assumption) ?_
      rotate_left
      · intro w hSw
        try dsimp only at hSw
        go_simp
        try with_reducible rfl
      rotate_left
      try simp only [Act.put, List.setIfInBounds_toArray, List.set_cons_zero, List.set_cons_succ, List.getElem_toArray, List.getElem_cons_zero, List.getElem_cons_succ]
      refine wpAnyH_take (i := 26) (v := ?_) rfl (by kernel_rfl) (by kernel_rfl) (by kernel_rfl) (fun _ _ _ h => h) (Or.inl ⟨by rfl, ?_⟩) (by assumption) ?_
      rotate_left
      · intro w hSw
        try dsimp only at hSw
        go_simp
        try with_reducible rfl
      rotate_left
      try simp only [Act.put, List.setIfInBounds_toArray, List.set_cons_zero, List.set_cons_succ, List.getElem_toArray, List.getElem_cons_zero, List.getElem_cons_succ]
      refine wpAnyH_done (by kernel_rfl) ?_ _
      go_wp2_with fail
      go_ret
      exact ⟨by first | rfl | exact ret_bool (by simp), hHeld.2.2.2.2.2.2.2.2.2.2⟩
    · cases r2
      · go_enter Try.func7, Try.ntmps7
        go_wp2_with fail
        rw [← HW.out]
        refine (law_shown _).mono ?_
        rintro e w1 ⟨rfl, hb1⟩
        have HT11 := Lib.hid (HT01.out.below hb1)
        have HT12 := Lib.hid (HT02.out.below hb1)
        have HB1 := Lib.hid (below_trans HB0.out hb1 HB0.out.size)
        clear hb1
        have e10 : w1.cell? ⟨w.heap.size, 0, none⟩ = some (.int .i64 ino1) := HT11.out.cell 0
        have e11 : w1.cell? ⟨w.heap.size, 1, none⟩ = some (.int .i64 kind1) := HT11.out.cell 1
        have e12 : w1.cell? ⟨w.heap.size, 2, none⟩ = some (.int .i64 links1) := HT11.out.cell 2
        have e13 : w1.cell? ⟨w.heap.size, 3, none⟩ = some (.string ⟨text1.toArray⟩) := HT11.out.cell 3
        have e14 : w1.cell? ⟨w.heap.size, 4, none⟩ = some (.slice A1 l1.length c1) := HT11.out.cell 4
        have e20 : w1.cell? ⟨w.heap.size + 1, 0, none⟩ = some (.int .i64 ino2) := HT12.out.cell 0
        have e21 : w1.cell? ⟨w.heap.size + 1, 1, none⟩ = some (.int .i64 kind2) := HT12.out.cell 1
        have e22 : w1.cell? ⟨w.heap.size + 1, 2, none⟩ = some (.int .i64 links2) := HT12.out.cell 2
        have e23 : w1.cell? ⟨w.heap.size + 1, 3, none⟩ = some (.string ⟨text2.toArray⟩) := HT12.out.cell 3
        have e24 : w1.cell? ⟨w.heap.size + 1, 4, none⟩ = some (.slice A2 l2.length c2) := HT12.out.cell 4
        go_wp2_with fail
        refine (HSAB.out _ HB1.out).mono ?_
        rintro e w2 ⟨rfl, hb2⟩
        have HT21 := Lib.hid (HT11.out.below hb2)
        have HT22 := Lib.hid (HT12.out.below hb2)
        have HB2 := Lib.hid (below_trans HB1.out hb2 HB1.out.size)
        clear hb2 e10 e11 e12 e13 e14 e20 e21 e22 e23 e24
        have e10 : w2.cell? ⟨w.heap.size, 0, none⟩ = some (.int .i64 ino1) := HT21.out.cell 0
        have e11 : w2.cell? ⟨w.heap.size, 1, none⟩ = some (.int .i64 kind1) := HT21.out.cell 1
        have e12 : w2.cell? ⟨w.heap.size, 2, none⟩ = some (.int .i64 links1) := HT21.out.cell 2
        have e13 : w2.cell? ⟨w.heap.size, 3, none⟩ = some (.string ⟨text1.toArray⟩) := HT21.out.cell 3
        have e14 : w2.cell? ⟨w.heap.size, 4, none⟩ = some (.slice A1 l1.length c1) := HT21.out.cell 4
        have e20 : w2.cell? ⟨w.heap.size + 1, 0, none⟩ = some (.int .i64 ino2) := HT22.out.cell 0
        have e21 : w2.cell? ⟨w.heap.size + 1, 1, none⟩ = some (.int .i64 kind2) := HT22.out.cell 1
        have e22 : w2.cell? ⟨w.heap.size + 1, 2, none⟩ = some (.int .i64 links2) := HT22.out.cell 2
        have e23 : w2.cell? ⟨w.heap.size + 1, 3, none⟩ = some (.string ⟨text2.toArray⟩) := HT22.out.cell 3
        have e24 : w2.cell? ⟨w.heap.size + 1, 4, none⟩ = some (.slice A2 l2.length c2) := HT22.out.cell 4
        go_wp2_with fail
        refine (HRN1.out _ HB2.out).mono ?_
        rintro e w3 ⟨rfl, hb3⟩
        have HT31 := Lib.hid (HT21.out.below hb3)
        have HT32 := Lib.hid (HT22.out.below hb3)
        have HB3 := Lib.hid (below_trans HB2.out hb3 HB2.out.size)
        clear hb3 e10 e11 e12 e13 e14 e20 e21 e22 e23 e24
        have e10 : w3.cell? ⟨w.heap.size, 0, none⟩ = some (.int .i64 ino1) := HT31.out.cell 0
        have e11 : w3.cell? ⟨w.heap.size, 1, none⟩ = some (.int .i64 kind1) := HT31.out.cell 1
        have e12 : w3.cell? ⟨w.heap.size, 2, none⟩ = some (.int .i64 links1) := HT31.out.cell 2
        have e13 : w3.cell? ⟨w.heap.size, 3, none⟩ = some (.string ⟨text1.toArray⟩) := HT31.out.cell 3
        have e14 : w3.cell? ⟨w.heap.size, 4, none⟩ = some (.slice A1 l1.length c1) := HT31.out.cell 4
        have e20 : w3.cell? ⟨w.heap.size + 1, 0, none⟩ = some (.int .i64 ino2) := HT32.out.cell 0
        have e21 : w3.cell? ⟨w.heap.size + 1, 1, none⟩ = some (.int .i64 kind2) := HT32.out.cell 1
        have e22 : w3.cell? ⟨w.heap.size + 1, 2, none⟩ = some (.int .i64 links2) := HT32.out.cell 2
        have e23 : w3.cell? ⟨w.heap.size + 1, 3, none⟩ = some (.string ⟨text2.toArray⟩) := HT32.out.cell 3
        have e24 : w3.cell? ⟨w.heap.size + 1, 4, none⟩ = some (.slice A2 l2.length c2) := HT32.out.cell 4
        go_wp2_with fail
        refine (HRN2.out _ HB3.out).mono ?_
        rintro e w4 ⟨rfl, hb4⟩
        have HT41 := Lib.hid (HT31.out.below hb4)
        have HT42 := Lib.hid (HT32.out.below hb4)
        have HB4 := Lib.hid (below_trans HB3.out hb4 HB3.out.size)
        clear hb4 e10 e11 e12 e13 e14 e20 e21 e22 e23 e24
        have e10 : w4.cell? ⟨w.heap.size, 0, none⟩ = some (.int .i64 ino1) := HT41.out.cell 0
        have e11 : w4.cell? ⟨w.heap.size, 1, none⟩ = some (.int .i64 kind1) := HT41.out.cell 1
        have e12 : w4.cell? ⟨w.heap.size, 2, none⟩ = some (.int .i64 links1) := HT41.out.cell 2
        have e13 : w4.cell? ⟨w.heap.size, 3, none⟩ = some (.string ⟨text1.toArray⟩) := HT41.out.cell 3
        have e14 : w4.cell? ⟨w.heap.size, 4, none⟩ = some (.slice A1 l1.length c1) := HT41.out.cell 4
        have e20 : w4.cell? ⟨w.heap.size + 1, 0, none⟩ = some (.int .i64 ino2) := HT42.out.cell 0
        have e21 : w4.cell? ⟨w.heap.size + 1, 1, none⟩ = some (.int .i64 kind2) := HT42.out.cell 1
        have e22 : w4.cell? ⟨w.heap.size + 1, 2, none⟩ = some (.int .i64 links2) := HT42.out.cell 2
        have e23 : w4.cell? ⟨w.heap.size + 1, 3, none⟩ = some (.string ⟨text2.toArray⟩) := HT42.out.cell 3
        have e24 : w4.cell? ⟨w.heap.size + 1, 4, none⟩ = some (.slice A2 l2.length c2) := HT42.out.cell 4
        go_wp2_with fail
        have HBX := Lib.hid HB4.out
        refine wp_region_held_drew (S := fun W => W.cell? ⟨w.heap.size, 0, none⟩ = some (.int .i64 ino1) ∧ W.cell? ⟨w.heap.size, 1, none⟩ = some (.int .i64 kind1) ∧ W.cell? ⟨w.heap.size, 2, none⟩ = some (.int .i64 links1) ∧ W.cell? ⟨w.heap.size, 3, none⟩ = some (.string ⟨text1.toArray⟩) ∧ W.cell? ⟨w.heap.size, 4, none⟩ = some (.slice A1 l1.length c1) ∧ W.cell? ⟨w.heap.size + 1, 0, none⟩ = some (.int .i64 ino2) ∧ W.cell? ⟨w.heap.size + 1, 1, none⟩ = some (.int .i64 kind2) ∧ W.cell? ⟨w.heap.size + 1, 2, none⟩ = some (.int .i64 links2) ∧ W.cell? ⟨w.heap.size + 1, 3, none⟩ = some (.string ⟨text2.toArray⟩) ∧ W.cell? ⟨w.heap.size + 1, 4, none⟩ = some (.slice A2 l2.length c2) ∧ Below w.heap.size w W) (by kernel_rfl) (HSD.out _ ⟨e10, e11, e12, e13, e14, e20, e21, e22, e23, e24, HBX.out⟩) (fun hHeld => ?_)
        refine wpAnyH_take (i := 0) (v := ?_) rfl (by kernel_rfl) (by kernel_rfl) (by kernel_rfl) (fun _ _ _ h => h) (Or.inl ⟨by rfl, ?_⟩) (by assumption) ?_
        rotate_left
        · intro w hSw
          try dsimp only at hSw
          go_simp
          try with_reducible rfl
        rotate_left
        try simp only [Act.put, List.setIfInBounds_toArray, List.set_cons_zero, List.set_cons_succ, List.getElem_toArray, List.getElem_cons_zero, List.getElem_cons_succ]
        refine wpAnyH_take (i := 1) (v := ?_) rfl (by kernel_rfl) (by kernel_rfl) (by kernel_rfl) (fun _ _ _ h => h) (Or.inl ⟨by rfl, ?_⟩) (by assumption) ?_
        rotate_left
        · intro w hSw
          try dsimp only at hSw
          go_simp
          try with_reducible rfl
        rotate_left
        try simp only [Act.put, List.setIfInBounds_toArray, List.set_cons_zero, List.set_cons_succ, List.getElem_toArray, List.getElem_cons_zero, List.getElem_cons_succ]
        refine wpAnyH_take (i := 2) (v := ?_) rfl (by kernel_rfl) (by kernel_rfl) (by kernel_rfl) (fun _ _ _ h => h) (Or.inl ⟨by rfl, ?_⟩) (by assumption) ?_
        rotate_left
        · intro w hSw
          try dsimp only at hSw
          go_simp
          try with_reducible rfl
        rotate_left
        try simp only [Act.put, List.setIfInBounds_toArray, List.set_cons_zero, List.set_cons_succ, List.getElem_toArray, List.getElem_cons_zero, List.getElem_cons_succ]
        refine wpAnyH_take (i := 3) (v := ?_) rfl (by kernel_rfl) (by kernel_rfl) (by kernel_rfl) (fun _ _ _ h => h) (Or.inl ⟨by rfl, ?_⟩) (by assumption) ?_
        rotate_left
        · intro w hSw
          try dsimp only at hSw
          go_simp
          try with_reducible rfl
        rotate_left
        try simp only [Act.put, List.setIfInBounds_toArray, List.set_cons_zero, List.set_cons_succ, List.getElem_toArray, List.getElem_cons_zero, List.getElem_cons_succ]
        refine wpAnyH_ready (rs := [4]) (by kernel_rfl) (by simp) ?_
        refine (AllReadyH.cons rfl (fun K hK => ?_) AllReadyH.nil)
        rw [if_pos (by rfl)]
        go_wp2_with fail
        refine (HSAA.out _ (hHeld.2.2.2.2.2.2.2.2.2.2)).mono ?_
        rintro e w7 ⟨rfl, hb7⟩
        replace hHeld := HSB.out _ _ hHeld hb7
        clear hb7
        refine hK.out _ _ hHeld (fun _ => ?_)
        clear hK K
        try simp only [Act.put, List.setIfInBounds_toArray, List.set_cons_zero, List.set_cons_succ, List.getElem_toArray, List.getElem_cons_zero, List.getElem_cons_succ]
        refine wpAnyH_take (i := 5) (v := ?_) rfl (by kernel_rfl) (by kernel_rfl) (by kernel_rfl) (fun _ _ _ h => h) (Or.inl ⟨by rfl, ?_⟩) (by assumption) ?_
        rotate_left
        · intro w hSw
          try dsimp only at hSw
          go_simp
          try with_reducible rfl
        rotate_left
        try simp only [Act.put, List.setIfInBounds_toArray, List.set_cons_zero, List.set_cons_succ, List.getElem_toArray, List.getElem_cons_zero, List.getElem_cons_succ]
        refine wpAnyH_take (i := 6) (v := ?_) rfl (by kernel_rfl) (by kernel_rfl) (by kernel_rfl) (fun _ _ _ h => h) (Or.inl ⟨by rfl, ?_⟩) (by assumption) ?_
        rotate_left
        · intro w hSw
          try dsimp only at hSw
          go_simp
          try with_reducible rfl
        rotate_left
        try simp only [Act.put, List.setIfInBounds_toArray, List.set_cons_zero, List.set_cons_succ, List.getElem_toArray, List.getElem_cons_zero, List.getElem_cons_succ]
        refine wpAnyH_take (i := 7) (v := ?_) rfl (by kernel_rfl) (by kernel_rfl) (by kernel_rfl) (fun _ _ _ h => h) (Or.inl ⟨by rfl, ?_⟩) (by assumption) ?_
        rotate_left
        · intro w hSw
          try dsimp only at hSw
          go_simp
          try with_reducible rfl
        rotate_left
        try simp only [Act.put, List.setIfInBounds_toArray, List.set_cons_zero, List.set_cons_succ, List.getElem_toArray, List.getElem_cons_zero, List.getElem_cons_succ]
        refine wpAnyH_take (i := 8) (v := ?_) rfl (by kernel_rfl) (by kernel_rfl) (by kernel_rfl) (fun _ _ _ h => h) (Or.inl ⟨by rfl, ?_⟩) (by assumption) ?_
        rotate_left
        · intro w hSw
          try dsimp only at hSw
          go_simp
          try with_reducible rfl
        rotate_left
        try simp only [Act.put, List.setIfInBounds_toArray, List.set_cons_zero, List.set_cons_succ, List.getElem_toArray, List.getElem_cons_zero, List.getElem_cons_succ]
        refine wpAnyH_take (i := 10) (v := ?_) rfl (by kernel_rfl) (by kernel_rfl) (by kernel_rfl) (fun _ _ _ h => h) (Or.inl ⟨by rfl, ?_⟩) (by assumption) ?_
        rotate_left
        · intro w hSw
          try dsimp only at hSw
          go_simp
          try with_reducible rfl
        rotate_left
        try simp only [Act.put, List.setIfInBounds_toArray, List.set_cons_zero, List.set_cons_succ, List.getElem_toArray, List.getElem_cons_zero, List.getElem_cons_succ]
        refine wpAnyH_ready (rs := [9]) (by kernel_rfl) (by simp) ?_
        refine (AllReadyH.cons rfl (fun K hK => ?_) AllReadyH.nil)
        rw [if_pos (by rfl)]
        go_wp2_with fail
        refine (HSBA.out _ (hHeld.2.2.2.2.2.2.2.2.2.2)).mono ?_
        rintro e w7 ⟨rfl, hb7⟩
        replace hHeld := HSB.out _ _ hHeld hb7
        clear hb7
        refine hK.out _ _ hHeld (fun _ => ?_)
        clear hK K
        try simp only [Act.put, List.setIfInBounds_toArray, List.set_cons_zero, List.set_cons_succ, List.getElem_toArray, List.getElem_cons_zero, List.getElem_cons_succ]
        refine wpAnyH_take (i := 11) (v := ?_) rfl (by kernel_rfl) (by kernel_rfl) (by kernel_rfl) (fun _ _ _ h => h) (Or.inl ⟨by rfl, ?_⟩) (by assumption) ?_
        rotate_left
        · intro w hSw
          try dsimp only at hSw
          go_simp
          try with_reducible rfl
        rotate_left
        try simp only [Act.put, List.setIfInBounds_toArray, List.set_cons_zero, List.set_cons_succ, List.getElem_toArray, List.getElem_cons_zero, List.getElem_cons_succ]
        refine wpAnyH_take (i := 12) (v := ?_) rfl (by kernel_rfl) (by kernel_rfl) (by kernel_rfl) (fun _ _ _ h => h) (Or.inl ⟨by rfl, ?_⟩) (by assumption) ?_
        rotate_left
        · intro w hSw
          try dsimp only at hSw
          go_simp
          try with_reducible rfl
        rotate_left
        try simp only [Act.put, List.setIfInBounds_toArray, List.set_cons_zero, List.set_cons_succ, List.getElem_toArray, List.getElem_cons_zero, List.getElem_cons_succ]
        refine wpAnyH_take (i := 13) (v := ?_) rfl (by kernel_rfl) (by kernel_rfl) (by kernel_rfl) (fun _ _ _ h => h) (Or.inl ⟨by rfl, ?_⟩) (by assumption) ?_
        rotate_left
        · intro w hSw
          try dsimp only at hSw
          go_simp
          try with_reducible rfl
        rotate_left
        try simp only [Act.put, List.setIfInBounds_toArray, List.set_cons_zero, List.set_cons_succ, List.getElem_toArray, List.getElem_cons_zero, List.getElem_cons_succ]
        refine wpAnyH_take (i := 14) (v := ?_) rfl (by kernel_rfl) (by kernel_rfl) (by kernel_rfl) (fun _ _ _ h => h) (Or.inl ⟨by rfl, ?_⟩) (by assumption) ?_
        rotate_left
        · intro w hSw
          try dsimp only at hSw
          go_simp
          try with_reducible rfl
        rotate_left
        try simp only [Act.put, List.setIfInBounds_toArray, List.set_cons_zero, List.set_cons_succ, List.getElem_toArray, List.getElem_cons_zero, List.getElem_cons_succ]
        refine wpAnyH_take (i := 15) (v := ?_) rfl (by kernel_rfl) (by kernel_rfl) (by kernel_rfl) (fun _ _ _ h => h) (Or.inl ⟨by rfl, ?_⟩) (by assumption) ?_
        rotate_left
        · intro w hSw
          try dsimp only at hSw
          go_simp
          try with_reducible rfl
        rotate_left
        try simp only [Act.put, List.setIfInBounds_toArray, List.set_cons_zero, List.set_cons_succ, List.getElem_toArray, List.getElem_cons_zero, List.getElem_cons_succ]
        refine wpAnyH_take (i := 16) (v := ?_) rfl (by kernel_rfl) (by kernel_rfl) (by kernel_rfl) (fun _ _ _ h => h) (Or.inl ⟨by rfl, ?_⟩) (by assumption) ?_
        rotate_left
        · intro w hSw
          try dsimp only at hSw
          go_simp
          try with_reducible rfl
        rotate_left
        try simp only [Act.put, List.setIfInBounds_toArray, List.set_cons_zero, List.set_cons_succ, List.getElem_toArray, List.getElem_cons_zero, List.getElem_cons_succ]
        refine wpAnyH_take (i := 17) (v := undef) rfl (by kernel_rfl) (by kernel_rfl) (by kernel_rfl) (fun _ _ _ h => h) (Or.inr ⟨by rfl, rfl⟩) (by assumption) ?_
        try simp only [Act.put, List.setIfInBounds_toArray, List.set_cons_zero, List.set_cons_succ, List.getElem_toArray, List.getElem_cons_zero, List.getElem_cons_succ]
        refine wpAnyH_take (i := 19) (v := undef) rfl (by kernel_rfl) (by kernel_rfl) (by kernel_rfl) (fun _ _ _ h => h) (Or.inr ⟨by rfl, rfl⟩) (by assumption) ?_
        try simp only [Act.put, List.setIfInBounds_toArray, List.set_cons_zero, List.set_cons_succ, List.getElem_toArray, List.getElem_cons_zero, List.getElem_cons_succ]
        refine wpAnyH_take (i := 22) (v := undef) rfl (by kernel_rfl) (by kernel_rfl) (by kernel_rfl) (fun _ _ _ h => h) (Or.inr ⟨by rfl, rfl⟩) (by assumption) ?_
        try simp only [Act.put, List.setIfInBounds_toArray, List.set_cons_zero, List.set_cons_succ, List.getElem_toArray, List.getElem_cons_zero, List.getElem_cons_succ]
        refine wpAnyH_ready (rs := [18]) (by kernel_rfl) (by simp) ?_
        refine (AllReadyH.cons rfl (fun K hK => ?_) AllReadyH.nil)
        rw [if_neg (by intro h; exact absurd (show false = true from h) (by decide))]
        refine hK.out _ _ hHeld (fun _ => ?_)
        clear hK K
        try simp only [Act.put, List.setIfInBounds_toArray, List.set_cons_zero, List.set_cons_succ, List.getElem_toArray, List.getElem_cons_zero, List.getElem_cons_succ]
        refine wpAnyH_ready (rs := [20]) (by kernel_rfl) (by simp) ?_
        refine (AllReadyH.cons rfl (fun K hK => ?_) AllReadyH.nil)
        rw [if_neg (by intro h; exact absurd (show false = true from h) (by decide))]
        refine hK.out _ _ hHeld (fun _ => ?_)
        clear hK K
        try simp only [Act.put, List.setIfInBounds_toArray, List.set_cons_zero, List.set_cons_succ, List.getElem_toArray, List.getElem_cons_zero, List.getElem_cons_succ]
        refine wpAnyH_take (i := 21) (v := undef) rfl (by kernel_rfl) (by kernel_rfl) (by kernel_rfl) (fun _ _ _ h => h) (Or.inr ⟨by rfl, rfl⟩) (by assumption) ?_
        try simp only [Act.put, List.setIfInBounds_toArray, List.set_cons_zero, List.set_cons_succ, List.getElem_toArray, List.getElem_cons_zero, List.getElem_cons_succ]
        refine wpAnyH_take (i := 23) (v := undef) rfl (by kernel_rfl) (by kernel_rfl) (by kernel_rfl) (fun _ _ _ h => h) (Or.inr ⟨by rfl, rfl⟩) (by assumption) ?_
        try simp only [Act.put, List.setIfInBounds_toArray, List.set_cons_zero, List.set_cons_succ, List.getElem_toArray, List.getElem_cons_zero, List.getElem_cons_succ]
        refine wpAnyH_take (i := 24) (v := ?_) rfl (by kernel_rfl) (by kernel_rfl) (by kernel_rfl) (fun _ _ _ h => h) (Or.inl ⟨by rfl, ?_⟩) (by assumption) ?_
        rotate_left
        · intro w hSw
          try dsimp only at hSw
          go_simp
          try with_reducible rfl
        rotate_left
        try simp only [Act.put, List.setIfInBounds_toArray, List.set_cons_zero, List.set_cons_succ, List.getElem_toArray, List.getElem_cons_zero, List.getElem_cons_succ]
        refine wpAnyH_take (i := 25) (v := ?_) rfl (by kernel_rfl) (by kernel_rfl) (by kernel_rfl) (fun _ _ _ h => h) (Or.inl ⟨by rfl, ?_⟩) (by assumption) ?_
        rotate_left
        · intro w hSw
          try dsimp only at hSw
          go_simp
          try with_reducible rfl
        rotate_left
        try simp only [Act.put, List.setIfInBounds_toArray, List.set_cons_zero, List.set_cons_succ, List.getElem_toArray, List.getElem_cons_zero, List.getElem_cons_succ]
        refine wpAnyH_take (i := 26) (v := ?_) rfl (by kernel_rfl) (by kernel_rfl) (by kernel_rfl) (fun _ _ _ h => h) (Or.inl ⟨by rfl, ?_⟩) (by assumption) ?_
        rotate_left
        · intro w hSw
          try dsimp only at hSw
          go_simp
          try with_reducible rfl
        rotate_left
        try simp only [Act.put, List.setIfInBounds_toArray, List.set_cons_zero, List.set_cons_succ, List.getElem_toArray, List.getElem_cons_zero, List.getElem_cons_succ]
        refine wpAnyH_done (by kernel_rfl) ?_ _
        go_wp2_with fail
        go_ret
        exact ⟨by first | rfl | exact ret_bool (by simp), hHeld.2.2.2.2.2.2.2.2.2.2⟩
      · obtain ⟨B1, B2, hbl1, hbl2, hBB, hta, htb⟩ := HFIN.out rfl rfl
        have HTA := Lib.hid hta
        have HTB := Lib.hid htb
        clear hta htb HFIN
        go_enter Try.func7, Try.ntmps7
        go_wp2_with fail
        rw [← HW.out]
        refine (law_shown _).mono ?_
        rintro e w1 ⟨rfl, hb1⟩
        have HT11 := Lib.hid (HT01.out.below hb1)
        have HT12 := Lib.hid (HT02.out.below hb1)
        have HB1 := Lib.hid (below_trans HB0.out hb1 HB0.out.size)
        clear hb1
        have e10 : w1.cell? ⟨w.heap.size, 0, none⟩ = some (.int .i64 ino1) := HT11.out.cell 0
        have e11 : w1.cell? ⟨w.heap.size, 1, none⟩ = some (.int .i64 kind1) := HT11.out.cell 1
        have e12 : w1.cell? ⟨w.heap.size, 2, none⟩ = some (.int .i64 links1) := HT11.out.cell 2
        have e13 : w1.cell? ⟨w.heap.size, 3, none⟩ = some (.string ⟨text1.toArray⟩) := HT11.out.cell 3
        have e14 : w1.cell? ⟨w.heap.size, 4, none⟩ = some (.slice A1 l1.length c1) := HT11.out.cell 4
        have e20 : w1.cell? ⟨w.heap.size + 1, 0, none⟩ = some (.int .i64 ino2) := HT12.out.cell 0
        have e21 : w1.cell? ⟨w.heap.size + 1, 1, none⟩ = some (.int .i64 kind2) := HT12.out.cell 1
        have e22 : w1.cell? ⟨w.heap.size + 1, 2, none⟩ = some (.int .i64 links2) := HT12.out.cell 2
        have e23 : w1.cell? ⟨w.heap.size + 1, 3, none⟩ = some (.string ⟨text2.toArray⟩) := HT12.out.cell 3
        have e24 : w1.cell? ⟨w.heap.size + 1, 4, none⟩ = some (.slice A2 l2.length c2) := HT12.out.cell 4
        go_wp2_with fail
        refine (HSAB.out _ HB1.out).mono ?_
        rintro e w2 ⟨rfl, hb2⟩
        have HT21 := Lib.hid (HT11.out.below hb2)
        have HT22 := Lib.hid (HT12.out.below hb2)
        have HB2 := Lib.hid (below_trans HB1.out hb2 HB1.out.size)
        clear hb2 e10 e11 e12 e13 e14 e20 e21 e22 e23 e24
        have e10 : w2.cell? ⟨w.heap.size, 0, none⟩ = some (.int .i64 ino1) := HT21.out.cell 0
        have e11 : w2.cell? ⟨w.heap.size, 1, none⟩ = some (.int .i64 kind1) := HT21.out.cell 1
        have e12 : w2.cell? ⟨w.heap.size, 2, none⟩ = some (.int .i64 links1) := HT21.out.cell 2
        have e13 : w2.cell? ⟨w.heap.size, 3, none⟩ = some (.string ⟨text1.toArray⟩) := HT21.out.cell 3
        have e14 : w2.cell? ⟨w.heap.size, 4, none⟩ = some (.slice A1 l1.length c1) := HT21.out.cell 4
        have e20 : w2.cell? ⟨w.heap.size + 1, 0, none⟩ = some (.int .i64 ino2) := HT22.out.cell 0
        have e21 : w2.cell? ⟨w.heap.size + 1, 1, none⟩ = some (.int .i64 kind2) := HT22.out.cell 1
        have e22 : w2.cell? ⟨w.heap.size + 1, 2, none⟩ = some (.int .i64 links2) := HT22.out.cell 2
        have e23 : w2.cell? ⟨w.heap.size + 1, 3, none⟩ = some (.string ⟨text2.toArray⟩) := HT22.out.cell 3
        have e24 : w2.cell? ⟨w.heap.size + 1, 4, none⟩ = some (.slice A2 l2.length c2) := HT22.out.cell 4
        go_wp2_with fail
        refine (HRN1.out _ HB2.out).mono ?_
        rintro e w3 ⟨rfl, hb3⟩
        have HT31 := Lib.hid (HT21.out.below hb3)
        have HT32 := Lib.hid (HT22.out.below hb3)
        have HB3 := Lib.hid (below_trans HB2.out hb3 HB2.out.size)
        clear hb3 e10 e11 e12 e13 e14 e20 e21 e22 e23 e24
        have e10 : w3.cell? ⟨w.heap.size, 0, none⟩ = some (.int .i64 ino1) := HT31.out.cell 0
        have e11 : w3.cell? ⟨w.heap.size, 1, none⟩ = some (.int .i64 kind1) := HT31.out.cell 1
        have e12 : w3.cell? ⟨w.heap.size, 2, none⟩ = some (.int .i64 links1) := HT31.out.cell 2
        have e13 : w3.cell? ⟨w.heap.size, 3, none⟩ = some (.string ⟨text1.toArray⟩) := HT31.out.cell 3
        have e14 : w3.cell? ⟨w.heap.size, 4, none⟩ = some (.slice A1 l1.length c1) := HT31.out.cell 4
        have e20 : w3.cell? ⟨w.heap.size + 1, 0, none⟩ = some (.int .i64 ino2) := HT32.out.cell 0
        have e21 : w3.cell? ⟨w.heap.size + 1, 1, none⟩ = some (.int .i64 kind2) := HT32.out.cell 1
        have e22 : w3.cell? ⟨w.heap.size + 1, 2, none⟩ = some (.int .i64 links2) := HT32.out.cell 2
        have e23 : w3.cell? ⟨w.heap.size + 1, 3, none⟩ = some (.string ⟨text2.toArray⟩) := HT32.out.cell 3
        have e24 : w3.cell? ⟨w.heap.size + 1, 4, none⟩ = some (.slice A2 l2.length c2) := HT32.out.cell 4
        go_wp2_with fail
        refine (HRN2.out _ HB3.out).mono ?_
        rintro e w4 ⟨rfl, hb4⟩
        have HT41 := Lib.hid (HT31.out.below hb4)
        have HT42 := Lib.hid (HT32.out.below hb4)
        have HB4 := Lib.hid (below_trans HB3.out hb4 HB3.out.size)
        clear hb4 e10 e11 e12 e13 e14 e20 e21 e22 e23 e24
        have e10 : w4.cell? ⟨w.heap.size, 0, none⟩ = some (.int .i64 ino1) := HT41.out.cell 0
        have e11 : w4.cell? ⟨w.heap.size, 1, none⟩ = some (.int .i64 kind1) := HT41.out.cell 1
        have e12 : w4.cell? ⟨w.heap.size, 2, none⟩ = some (.int .i64 links1) := HT41.out.cell 2
        have e13 : w4.cell? ⟨w.heap.size, 3, none⟩ = some (.string ⟨text1.toArray⟩) := HT41.out.cell 3
        have e14 : w4.cell? ⟨w.heap.size, 4, none⟩ = some (.slice A1 l1.length c1) := HT41.out.cell 4
        have e20 : w4.cell? ⟨w.heap.size + 1, 0, none⟩ = some (.int .i64 ino2) := HT42.out.cell 0
        have e21 : w4.cell? ⟨w.heap.size + 1, 1, none⟩ = some (.int .i64 kind2) := HT42.out.cell 1
        have e22 : w4.cell? ⟨w.heap.size + 1, 2, none⟩ = some (.int .i64 links2) := HT42.out.cell 2
        have e23 : w4.cell? ⟨w.heap.size + 1, 3, none⟩ = some (.string ⟨text2.toArray⟩) := HT42.out.cell 3
        have e24 : w4.cell? ⟨w.heap.size + 1, 4, none⟩ = some (.slice A2 l2.length c2) := HT42.out.cell 4
        go_wp2_with fail
        have HBX := Lib.hid HB4.out
        refine wp_region_held_drew (S := fun W => W.cell? ⟨w.heap.size, 0, none⟩ = some (.int .i64 ino1) ∧ W.cell? ⟨w.heap.size, 1, none⟩ = some (.int .i64 kind1) ∧ W.cell? ⟨w.heap.size, 2, none⟩ = some (.int .i64 links1) ∧ W.cell? ⟨w.heap.size, 3, none⟩ = some (.string ⟨text1.toArray⟩) ∧ W.cell? ⟨w.heap.size, 4, none⟩ = some (.slice A1 l1.length c1) ∧ W.cell? ⟨w.heap.size + 1, 0, none⟩ = some (.int .i64 ino2) ∧ W.cell? ⟨w.heap.size + 1, 1, none⟩ = some (.int .i64 kind2) ∧ W.cell? ⟨w.heap.size + 1, 2, none⟩ = some (.int .i64 links2) ∧ W.cell? ⟨w.heap.size + 1, 3, none⟩ = some (.string ⟨text2.toArray⟩) ∧ W.cell? ⟨w.heap.size + 1, 4, none⟩ = some (.slice A2 l2.length c2) ∧ Below w.heap.size w W) (by kernel_rfl) (HSD.out _ ⟨e10, e11, e12, e13, e14, e20, e21, e22, e23, e24, HBX.out⟩) (fun hHeld => ?_)
        refine wpAnyH_take (i := 0) (v := ?_) rfl (by kernel_rfl) (by kernel_rfl) (by kernel_rfl) (fun _ _ _ h => h) (Or.inl ⟨by rfl, ?_⟩) (by assumption) ?_
        rotate_left
        · intro w hSw
          try dsimp only at hSw
          go_simp
          try with_reducible rfl
        rotate_left
        try simp only [Act.put, List.setIfInBounds_toArray, List.set_cons_zero, List.set_cons_succ, List.getElem_toArray, List.getElem_cons_zero, List.getElem_cons_succ]
        refine wpAnyH_take (i := 1) (v := ?_) rfl (by kernel_rfl) (by kernel_rfl) (by kernel_rfl) (fun _ _ _ h => h) (Or.inl ⟨by rfl, ?_⟩) (by assumption) ?_
        rotate_left
        · intro w hSw
          try dsimp only at hSw
          go_simp
          try with_reducible rfl
        rotate_left
        try simp only [Act.put, List.setIfInBounds_toArray, List.set_cons_zero, List.set_cons_succ, List.getElem_toArray, List.getElem_cons_zero, List.getElem_cons_succ]
        refine wpAnyH_take (i := 2) (v := ?_) rfl (by kernel_rfl) (by kernel_rfl) (by kernel_rfl) (fun _ _ _ h => h) (Or.inl ⟨by rfl, ?_⟩) (by assumption) ?_
        rotate_left
        · intro w hSw
          try dsimp only at hSw
          go_simp
          try with_reducible rfl
        rotate_left
        try simp only [Act.put, List.setIfInBounds_toArray, List.set_cons_zero, List.set_cons_succ, List.getElem_toArray, List.getElem_cons_zero, List.getElem_cons_succ]
        refine wpAnyH_take (i := 3) (v := ?_) rfl (by kernel_rfl) (by kernel_rfl) (by kernel_rfl) (fun _ _ _ h => h) (Or.inl ⟨by rfl, ?_⟩) (by assumption) ?_
        rotate_left
        · intro w hSw
          try dsimp only at hSw
          go_simp
          try with_reducible rfl
        rotate_left
        try simp only [Act.put, List.setIfInBounds_toArray, List.set_cons_zero, List.set_cons_succ, List.getElem_toArray, List.getElem_cons_zero, List.getElem_cons_succ]
        refine wpAnyH_ready (rs := [4]) (by kernel_rfl) (by simp) ?_
        refine (AllReadyH.cons rfl (fun K hK => ?_) AllReadyH.nil)
        rw [if_pos (by rfl)]
        go_wp2_with fail
        refine (HSAA.out _ (hHeld.2.2.2.2.2.2.2.2.2.2)).mono ?_
        rintro e w7 ⟨rfl, hb7⟩
        replace hHeld := HSB.out _ _ hHeld hb7
        clear hb7
        refine hK.out _ _ hHeld (fun _ => ?_)
        clear hK K
        try simp only [Act.put, List.setIfInBounds_toArray, List.set_cons_zero, List.set_cons_succ, List.getElem_toArray, List.getElem_cons_zero, List.getElem_cons_succ]
        refine wpAnyH_take (i := 5) (v := ?_) rfl (by kernel_rfl) (by kernel_rfl) (by kernel_rfl) (fun _ _ _ h => h) (Or.inl ⟨by rfl, ?_⟩) (by assumption) ?_
        rotate_left
        · intro w hSw
          try dsimp only at hSw
          go_simp
          try with_reducible rfl
        rotate_left
        try simp only [Act.put, List.setIfInBounds_toArray, List.set_cons_zero, List.set_cons_succ, List.getElem_toArray, List.getElem_cons_zero, List.getElem_cons_succ]
        refine wpAnyH_take (i := 6) (v := ?_) rfl (by kernel_rfl) (by kernel_rfl) (by kernel_rfl) (fun _ _ _ h => h) (Or.inl ⟨by rfl, ?_⟩) (by assumption) ?_
        rotate_left
        · intro w hSw
          try dsimp only at hSw
          go_simp
          try with_reducible rfl
        rotate_left
        try simp only [Act.put, List.setIfInBounds_toArray, List.set_cons_zero, List.set_cons_succ, List.getElem_toArray, List.getElem_cons_zero, List.getElem_cons_succ]
        refine wpAnyH_take (i := 7) (v := ?_) rfl (by kernel_rfl) (by kernel_rfl) (by kernel_rfl) (fun _ _ _ h => h) (Or.inl ⟨by rfl, ?_⟩) (by assumption) ?_
        rotate_left
        · intro w hSw
          try dsimp only at hSw
          go_simp
          try with_reducible rfl
        rotate_left
        try simp only [Act.put, List.setIfInBounds_toArray, List.set_cons_zero, List.set_cons_succ, List.getElem_toArray, List.getElem_cons_zero, List.getElem_cons_succ]
        refine wpAnyH_take (i := 8) (v := ?_) rfl (by kernel_rfl) (by kernel_rfl) (by kernel_rfl) (fun _ _ _ h => h) (Or.inl ⟨by rfl, ?_⟩) (by assumption) ?_
        rotate_left
        · intro w hSw
          try dsimp only at hSw
          go_simp
          try with_reducible rfl
        rotate_left
        try simp only [Act.put, List.setIfInBounds_toArray, List.set_cons_zero, List.set_cons_succ, List.getElem_toArray, List.getElem_cons_zero, List.getElem_cons_succ]
        refine wpAnyH_take (i := 10) (v := ?_) rfl (by kernel_rfl) (by kernel_rfl) (by kernel_rfl) (fun _ _ _ h => h) (Or.inl ⟨by rfl, ?_⟩) (by assumption) ?_
        rotate_left
        · intro w hSw
          try dsimp only at hSw
          go_simp
          try with_reducible rfl
        rotate_left
        try simp only [Act.put, List.setIfInBounds_toArray, List.set_cons_zero, List.set_cons_succ, List.getElem_toArray, List.getElem_cons_zero, List.getElem_cons_succ]
        refine wpAnyH_ready (rs := [9]) (by kernel_rfl) (by simp) ?_
        refine (AllReadyH.cons rfl (fun K hK => ?_) AllReadyH.nil)
        rw [if_pos (by rfl)]
        go_wp2_with fail
        refine (HSBA.out _ (hHeld.2.2.2.2.2.2.2.2.2.2)).mono ?_
        rintro e w7 ⟨rfl, hb7⟩
        replace hHeld := HSB.out _ _ hHeld hb7
        clear hb7
        refine hK.out _ _ hHeld (fun _ => ?_)
        clear hK K
        try simp only [Act.put, List.setIfInBounds_toArray, List.set_cons_zero, List.set_cons_succ, List.getElem_toArray, List.getElem_cons_zero, List.getElem_cons_succ]
        refine wpAnyH_take (i := 11) (v := ?_) rfl (by kernel_rfl) (by kernel_rfl) (by kernel_rfl) (fun _ _ _ h => h) (Or.inl ⟨by rfl, ?_⟩) (by assumption) ?_
        rotate_left
        · intro w hSw
          try dsimp only at hSw
          go_simp
          try with_reducible rfl
        rotate_left
        try simp only [Act.put, List.setIfInBounds_toArray, List.set_cons_zero, List.set_cons_succ, List.getElem_toArray, List.getElem_cons_zero, List.getElem_cons_succ]
        refine wpAnyH_take (i := 12) (v := ?_) rfl (by kernel_rfl) (by kernel_rfl) (by kernel_rfl) (fun _ _ _ h => h) (Or.inl ⟨by rfl, ?_⟩) (by assumption) ?_
        rotate_left
        · intro w hSw
          try dsimp only at hSw
          go_simp
          try with_reducible rfl
        rotate_left
        try simp only [Act.put, List.setIfInBounds_toArray, List.set_cons_zero, List.set_cons_succ, List.getElem_toArray, List.getElem_cons_zero, List.getElem_cons_succ]
        refine wpAnyH_take (i := 13) (v := ?_) rfl (by kernel_rfl) (by kernel_rfl) (by kernel_rfl) (fun _ _ _ h => h) (Or.inl ⟨by rfl, ?_⟩) (by assumption) ?_
        rotate_left
        · intro w hSw
          try dsimp only at hSw
          go_simp
          try with_reducible rfl
        rotate_left
        try simp only [Act.put, List.setIfInBounds_toArray, List.set_cons_zero, List.set_cons_succ, List.getElem_toArray, List.getElem_cons_zero, List.getElem_cons_succ]
        refine wpAnyH_take (i := 14) (v := ?_) rfl (by kernel_rfl) (by kernel_rfl) (by kernel_rfl) (fun _ _ _ h => h) (Or.inl ⟨by rfl, ?_⟩) (by assumption) ?_
        rotate_left
        · intro w hSw
          try dsimp only at hSw
          go_simp
          try with_reducible rfl
        rotate_left
        try simp only [Act.put, List.setIfInBounds_toArray, List.set_cons_zero, List.set_cons_succ, List.getElem_toArray, List.getElem_cons_zero, List.getElem_cons_succ]
        refine wpAnyH_take (i := 15) (v := ?_) rfl (by kernel_rfl) (by kernel_rfl) (by kernel_rfl) (fun _ _ _ h => h) (Or.inl ⟨by rfl, ?_⟩) (by assumption) ?_
        rotate_left
        · intro w hSw
          try dsimp only at hSw
          go_simp
          try with_reducible rfl
        rotate_left
        try simp only [Act.put, List.setIfInBounds_toArray, List.set_cons_zero, List.set_cons_succ, List.getElem_toArray, List.getElem_cons_zero, List.getElem_cons_succ]
        refine wpAnyH_take (i := 16) (v := ?_) rfl (by kernel_rfl) (by kernel_rfl) (by kernel_rfl) (fun _ _ _ h => h) (Or.inl ⟨by rfl, ?_⟩) (by assumption) ?_
        rotate_left
        · intro w hSw
          try dsimp only at hSw
          go_simp
          try with_reducible rfl
        rotate_left
        try simp only [Act.put, List.setIfInBounds_toArray, List.set_cons_zero, List.set_cons_succ, List.getElem_toArray, List.getElem_cons_zero, List.getElem_cons_succ]
        refine wpAnyH_take (i := 17) (v := ?_) rfl (by kernel_rfl) (by kernel_rfl) (by kernel_rfl) (fun _ _ _ h => h) (Or.inl ⟨by rfl, ?_⟩) (by assumption) ?_
        rotate_left
        · intro w hSw
          try dsimp only at hSw
          go_simp
          try with_reducible rfl
        rotate_left
        try simp only [Act.put, List.setIfInBounds_toArray, List.set_cons_zero, List.set_cons_succ, List.getElem_toArray, List.getElem_cons_zero, List.getElem_cons_succ]
        refine wpAnyH_take (i := 19) (v := ?_) rfl (by kernel_rfl) (by kernel_rfl) (by kernel_rfl) (fun _ _ _ h => h) (Or.inl ⟨by rfl, ?_⟩) (by assumption) ?_
        rotate_left
        · intro w hSw
          try dsimp only at hSw
          go_simp
          try with_reducible rfl
        rotate_left
        try simp only [Act.put, List.setIfInBounds_toArray, List.set_cons_zero, List.set_cons_succ, List.getElem_toArray, List.getElem_cons_zero, List.getElem_cons_succ]
        refine wpAnyH_take (i := 22) (v := ?_) rfl (by kernel_rfl) (by kernel_rfl) (by kernel_rfl) (fun _ _ _ h => h) (Or.inl ⟨by rfl, ?_⟩) (by assumption) ?_
        rotate_left
        · intro w hSw
          try dsimp only at hSw
          go_simp
          try with_reducible rfl
        rotate_left
        try simp only [Act.put, List.setIfInBounds_toArray, List.set_cons_zero, List.set_cons_succ, List.getElem_toArray, List.getElem_cons_zero, List.getElem_cons_succ]
        refine wpAnyH_ready (rs := [18]) (by kernel_rfl) (by simp) ?_
        refine (AllReadyH.cons rfl (fun K hK => ?_) AllReadyH.nil)
        rw [if_pos (by rfl)]
        go_wp2_with fail
        refine (HTA.out _ (hHeld.2.2.2.2.2.2.2.2.2.2)).mono ?_
        rintro e w7 ⟨rfl, hb7⟩
        replace hHeld := HSB.out _ _ hHeld hb7
        clear hb7
        refine hK.out _ _ hHeld (fun _ => ?_)
        clear hK K
        try simp only [Act.put, List.setIfInBounds_toArray, List.set_cons_zero, List.set_cons_succ, List.getElem_toArray, List.getElem_cons_zero, List.getElem_cons_succ]
        refine wpAnyH_ready (rs := [20]) (by kernel_rfl) (by simp) ?_
        refine (AllReadyH.cons rfl (fun K hK => ?_) AllReadyH.nil)
        rw [if_pos (by rfl)]
        go_wp2_with fail
        refine (HTB.out _ (hHeld.2.2.2.2.2.2.2.2.2.2)).mono ?_
        rintro e w7 ⟨rfl, hb7⟩
        replace hHeld := HSB.out _ _ hHeld hb7
        clear hb7
        refine hK.out _ _ hHeld (fun _ => ?_)
        clear hK K
        try simp only [Act.put, List.setIfInBounds_toArray, List.set_cons_zero, List.set_cons_succ, List.getElem_toArray, List.getElem_cons_zero, List.getElem_cons_succ]
        refine wpAnyH_take (i := 21) (v := ?_) rfl (by kernel_rfl) (by kernel_rfl) (by kernel_rfl) (fun _ _ _ h => h) (Or.inl ⟨by rfl, ?_⟩) (by assumption) ?_
        rotate_left
        · intro w hSw
          try dsimp only at hSw
          go_simp
          try with_reducible rfl
        rotate_left
        try simp only [Act.put, List.setIfInBounds_toArray, List.set_cons_zero, List.set_cons_succ, List.getElem_toArray, List.getElem_cons_zero, List.getElem_cons_succ]
        refine wpAnyH_take (i := 23) (v := ?_) rfl (by kernel_rfl) (by kernel_rfl) (by kernel_rfl) (fun _ _ _ h => h) (Or.inl ⟨by rfl, ?_⟩) (by assumption) ?_
        rotate_left
        · intro w hSw
          try dsimp only at hSw
          go_simp
          try with_reducible rfl
        rotate_left
        try simp only [Act.put, List.setIfInBounds_toArray, List.set_cons_zero, List.set_cons_succ, List.getElem_toArray, List.getElem_cons_zero, List.getElem_cons_succ]
        refine wpAnyH_take (i := 24) (v := ?_) rfl (by kernel_rfl) (by kernel_rfl) (by kernel_rfl) (fun _ _ _ h => h) (Or.inl ⟨by rfl, ?_⟩) (by assumption) ?_
        rotate_left
        · intro w hSw
          try dsimp only at hSw
          go_simp
          try with_reducible rfl
        rotate_left
        try simp only [Act.put, List.setIfInBounds_toArray, List.set_cons_zero, List.set_cons_succ, List.getElem_toArray, List.getElem_cons_zero, List.getElem_cons_succ]
        refine wpAnyH_take (i := 25) (v := ?_) rfl (by kernel_rfl) (by kernel_rfl) (by kernel_rfl) (fun _ _ _ h => h) (Or.inl ⟨by rfl, ?_⟩) (by assumption) ?_
        rotate_left
        · intro w hSw
          try dsimp only at hSw
          go_simp
          try with_reducible rfl
        rotate_left
        try simp only [Act.put, List.setIfInBounds_toArray, List.set_cons_zero, List.set_cons_succ, List.getElem_toArray, List.getElem_cons_zero, List.getElem_cons_succ]
        refine wpAnyH_take (i := 26) (v := ?_) rfl (by kernel_rfl) (by kernel_rfl) (by kernel_rfl) (fun _ _ _ h => h) (Or.inl ⟨by rfl, ?_⟩) (by assumption) ?_
        rotate_left
        · intro w hSw
          try dsimp only at hSw
          go_simp
          try with_reducible rfl
        rotate_left
        try simp only [Act.put, List.setIfInBounds_toArray, List.set_cons_zero, List.set_cons_succ, List.getElem_toArray, List.getElem_cons_zero, List.getElem_cons_succ]
        refine wpAnyH_done (by kernel_rfl) ?_ _
        go_wp2_with fail
        go_ret
        exact ⟨by first | rfl | exact ret_bool (by simp), hHeld.2.2.2.2.2.2.2.2.2.2⟩
  · rcases (show 300 < l1.length + l2.length ∨ l1.length + l2.length ≤ 300 ∧ 5000 < text1.length + text2.length from by omega) with h | ⟨h, h'⟩
    · have d1 : decide ((300 : Int) < (l1.length : Int) + (l2.length : Int)) = true := by rw [decide_eq_true_iff]; omega
      clear hsm
      go_enter Try.func7, Try.ntmps7
      go_wp2_with fail
      rw [← HW.out]
      refine (law_shown _).mono ?_
      rintro e w1 ⟨rfl, hb1⟩
      have HT11 := Lib.hid (HT01.out.below hb1)
      have HT12 := Lib.hid (HT02.out.below hb1)
      have HB1 := Lib.hid (below_trans HB0.out hb1 HB0.out.size)
      clear hb1
      have e10 : w1.cell? ⟨w.heap.size, 0, none⟩ = some (.int .i64 ino1) := HT11.out.cell 0
      have e11 : w1.cell? ⟨w.heap.size, 1, none⟩ = some (.int .i64 kind1) := HT11.out.cell 1
      have e12 : w1.cell? ⟨w.heap.size, 2, none⟩ = some (.int .i64 links1) := HT11.out.cell 2
      have e13 : w1.cell? ⟨w.heap.size, 3, none⟩ = some (.string ⟨text1.toArray⟩) := HT11.out.cell 3
      have e14 : w1.cell? ⟨w.heap.size, 4, none⟩ = some (.slice A1 l1.length c1) := HT11.out.cell 4
      have e20 : w1.cell? ⟨w.heap.size + 1, 0, none⟩ = some (.int .i64 ino2) := HT12.out.cell 0
      have e21 : w1.cell? ⟨w.heap.size + 1, 1, none⟩ = some (.int .i64 kind2) := HT12.out.cell 1
      have e22 : w1.cell? ⟨w.heap.size + 1, 2, none⟩ = some (.int .i64 links2) := HT12.out.cell 2
      have e23 : w1.cell? ⟨w.heap.size + 1, 3, none⟩ = some (.string ⟨text2.toArray⟩) := HT12.out.cell 3
      have e24 : w1.cell? ⟨w.heap.size + 1, 4, none⟩ = some (.slice A2 l2.length c2) := HT12.out.cell 4
      go_wp2_with fail
      go_ret
      exact ⟨rfl, HB1.out⟩
    · have d1 : decide ((300 : Int) < (l1.length : Int) + (l2.length : Int)) = false := by rw [decide_eq_false_iff_not]; omega
      have d2 : decide ((5000 : Int) < (text1.length : Int) + (text2.length : Int)) = true := by rw [decide_eq_true_iff]; omega
      clear hsm
      go_enter Try.func7, Try.ntmps7
      go_wp2_with fail
      rw [← HW.out]
      refine (law_shown _).mono ?_
      rintro e w1 ⟨rfl, hb1⟩
      have HT11 := Lib.hid (HT01.out.below hb1)
      have HT12 := Lib.hid (HT02.out.below hb1)
      have HB1 := Lib.hid (below_trans HB0.out hb1 HB0.out.size)
      clear hb1
      have e10 : w1.cell? ⟨w.heap.size, 0, none⟩ = some (.int .i64 ino1) := HT11.out.cell 0
      have e11 : w1.cell? ⟨w.heap.size, 1, none⟩ = some (.int .i64 kind1) := HT11.out.cell 1
      have e12 : w1.cell? ⟨w.heap.size, 2, none⟩ = some (.int .i64 links1) := HT11.out.cell 2
      have e13 : w1.cell? ⟨w.heap.size, 3, none⟩ = some (.string ⟨text1.toArray⟩) := HT11.out.cell 3
      have e14 : w1.cell? ⟨w.heap.size, 4, none⟩ = some (.slice A1 l1.length c1) := HT11.out.cell 4
      have e20 : w1.cell? ⟨w.heap.size + 1, 0, none⟩ = some (.int .i64 ino2) := HT12.out.cell 0
      have e21 : w1.cell? ⟨w.heap.size + 1, 1, none⟩ = some (.int .i64 kind2) := HT12.out.cell 1
      have e22 : w1.cell? ⟨w.heap.size + 1, 2, none⟩ = some (.int .i64 links2) := HT12.out.cell 2
      have e23 : w1.cell? ⟨w.heap.size + 1, 3, none⟩ = some (.string ⟨text2.toArray⟩) := HT12.out.cell 3
      have e24 : w1.cell? ⟨w.heap.size + 1, 4, none⟩ = some (.slice A2 l2.length c2) := HT12.out.cell 4
      go_wp2_with fail
      go_ret
      exact ⟨rfl, HB1.out⟩
theorem own : ownKnob Try.prog.godebug = none := by kernel_rfl
theorem laidOut : laidOutB Try.prog = true := by kernel_rfl
theorem cellscopyhold_api_Node : Try.prog.cellsOf 24 = 5 := by kernel_rfl
theorem cellsint : Try.prog.cellsOf 3 = 1 := by kernel_rfl
theorem cellsstring : Try.prog.cellsOf 9 = 1 := by kernel_rfl
theorem cells__api_Entry : Try.prog.cellsOf 22 = 1 := by kernel_rfl

set_option maxRecDepth 100000 in
set_option maxHeartbeats 1000000 in
theorem lifted (os : Os) (started : os.Started) (H : Type) (enc : TypeId × Value → H) :
    ReturnsInHanded {} Try.checked os 7 .any (Rows.nodeSameSpec.pre6 enc Try.prog Try.f7 Rows.nodeSameRow.domain false) (Rows.nodeSameSpec.post enc Try.prog Try.f7 false true false false) := by
  refine returnsInHanded_of_change_sized (C := Try.checked) own started (by kernel_rfl) Try.func7
    (ChangeSpec.witness6 (enc := enc) (C := Try.checked) false ⟨#[], #[.agg #[.int .i64 0, .int .i64 0, .int .i64 0, .string ByteArray.empty, .slice none 0 0], .agg #[.int .i64 0, .int .i64 0, .int .i64 0, .string ByteArray.empty, .slice none 0 0]], []⟩ 8 (by kernel_rfl) (by kernel_rfl) (by kernel_rfl) (by kernel_rfl)) ?_
  intro W base args ds gs before hval0 hW hcnd hsz0 _
  have hsz : (DataW.weightsEach Try.prog (Try.f7.params.toList ++ []) (ds ++ gs)).all (· ≤ reachBytes) = true := hsz0
  clear hsz0
  have hval : ∀ (j : Nat) t v, Try.f7.params[j]? = some t → args[j]? = some v → Value.okWide Try.prog W .any base t v := hval0
  have hW' := hW
  have hlt := hW.lt
  obtain ⟨p, q, hA0, hV, rfl, hfz, hnd⟩ := hW
  have hA : DataW.TrodAll enc Try.prog W 0 (fun _ => true) true Try.f7.params.toList args.toList ds p := hA0
  rw [Try.params7] at hA hval
  obtain ⟨v0, vs0, d0, ds0, p0, q0, hargs, rfl, rfl, h0, r0⟩ := trodAll_cons hA
  obtain ⟨v1, vs1, d1, ds1, p1, q1, rfl, rfl, rfl, h1, r1⟩ := trodAll_cons r0
  obtain ⟨rfl, rfl, rfl⟩ := trodAll_nil r1
  obtain rfl : args = #[v0, v1] := by cases args; simp_all
  obtain ⟨rfl, rfl⟩ := trodVars_none hV
  obtain ⟨cs0, rfl, hcz0⟩ := okWide_struct Try.underlying24 (hval 0 24 v0 rfl rfl)
  rw [cellscopyhold_api_Node] at hcz0
  obtain ⟨c0_0, c0_1, c0_2, c0_3, c0_4, rfl⟩ := array5_of hcz0
  obtain ⟨fuel0, hf0⟩ := h0
  obtain ⟨xs0, m0, _, hx0, _, hlen0, hfl0⟩ := DataW.trod_struct Try.underlying24 hf0
  obtain ⟨y0_0, y0_1, y0_2, y0_3, y0_4, rfl⟩ := list5 hlen0
  have g0_0 : DataW.trod enc Try.prog W 0 (fun _ => true) true m0 3 [c0_0] = some y0_0 := by have h := hfl0 0 _ rfl; simpa [Value.cells, cellsint] using h
  have g0_1 : DataW.trod enc Try.prog W 0 (fun _ => true) true m0 3 [c0_1] = some y0_1 := by have h := hfl0 1 _ rfl; simpa [Value.cells, cellsint] using h
  have g0_2 : DataW.trod enc Try.prog W 0 (fun _ => true) true m0 3 [c0_2] = some y0_2 := by have h := hfl0 2 _ rfl; simpa [Value.cells, cellsint] using h
  have g0_3 : DataW.trod enc Try.prog W 0 (fun _ => true) true m0 9 [c0_3] = some y0_3 := by have h := hfl0 3 _ rfl; simpa [Value.cells, cellsstring] using h
  have g0_4 : DataW.trod enc Try.prog W 0 (fun _ => true) true m0 22 [c0_4] = some y0_4 := by have h := hfl0 4 _ rfl; simpa [Value.cells, cells__api_Entry] using h
  simp only [Prod.mk.injEq] at hx0
  obtain ⟨rfl, hp0⟩ := hx0
  subst hp0
  obtain ⟨a0_0, ev0_0, ey0_0, w0_0⟩ := DataW.trod_int Try.underlying3 g0_0
  obtain rfl : c0_0 = _ := by simpa using ev0_0
  subst ey0_0
  obtain ⟨a0_1, ev0_1, ey0_1, w0_1⟩ := DataW.trod_int Try.underlying3 g0_1
  obtain rfl : c0_1 = _ := by simpa using ev0_1
  subst ey0_1
  obtain ⟨a0_2, ev0_2, ey0_2, w0_2⟩ := DataW.trod_int Try.underlying3 g0_2
  obtain rfl : c0_2 = _ := by simpa using ev0_2
  subst ey0_2
  obtain ⟨s0_3, ev0_3, ey0_3, w0_3⟩ := DataW.trod_string Try.underlying9 g0_3
  obtain rfl : c0_3 = _ := by simpa using ev0_3
  subst ey0_3
  have z0_3 : s0_3.data.toList.length ≤ 140737488351232 := sized_deep hsz (by rw [Try.params7]; simp [DataW.weightsEach, DataW.weights, Try.underlying24, Try.underlying24])
  obtain ⟨a0_3, rfl⟩ : ∃ l : List UInt8, s0_3 = ⟨l.toArray⟩ := ⟨s0_3.data.toList, rfl⟩
  have hw0_4 : ∀ n ∈ DataW.weights Try.prog 22 y0_4.1, n ≤ 140737488351232 := fun n hn => sized_deep hsz (by rw [Try.params7]; simp [DataW.weightsEach, DataW.weights, Try.underlying24, Try.underlying24, hn])
  obtain ⟨u0_4, a0_4, ev0_4, f0_4_0, f0_4_1, f0_4_2⟩ := open_ents g0_4 (fun x hx => hlt x (by simp [hx])) hw0_4
  obtain rfl : c0_4 = _ := by simpa using ev0_4
  obtain ⟨cs1, rfl, hcz1⟩ := okWide_struct Try.underlying24 (hval 1 24 v1 rfl rfl)
  rw [cellscopyhold_api_Node] at hcz1
  obtain ⟨c1_0, c1_1, c1_2, c1_3, c1_4, rfl⟩ := array5_of hcz1
  obtain ⟨fuel1, hf1⟩ := h1
  obtain ⟨xs1, m1, _, hx1, _, hlen1, hfl1⟩ := DataW.trod_struct Try.underlying24 hf1
  obtain ⟨y1_0, y1_1, y1_2, y1_3, y1_4, rfl⟩ := list5 hlen1
  have g1_0 : DataW.trod enc Try.prog W 0 (fun _ => true) true m1 3 [c1_0] = some y1_0 := by have h := hfl1 0 _ rfl; simpa [Value.cells, cellsint] using h
  have g1_1 : DataW.trod enc Try.prog W 0 (fun _ => true) true m1 3 [c1_1] = some y1_1 := by have h := hfl1 1 _ rfl; simpa [Value.cells, cellsint] using h
  have g1_2 : DataW.trod enc Try.prog W 0 (fun _ => true) true m1 3 [c1_2] = some y1_2 := by have h := hfl1 2 _ rfl; simpa [Value.cells, cellsint] using h
  have g1_3 : DataW.trod enc Try.prog W 0 (fun _ => true) true m1 9 [c1_3] = some y1_3 := by have h := hfl1 3 _ rfl; simpa [Value.cells, cellsstring] using h
  have g1_4 : DataW.trod enc Try.prog W 0 (fun _ => true) true m1 22 [c1_4] = some y1_4 := by have h := hfl1 4 _ rfl; simpa [Value.cells, cells__api_Entry] using h
  simp only [Prod.mk.injEq] at hx1
  obtain ⟨rfl, hp1⟩ := hx1
  subst hp1
  obtain ⟨a1_0, ev1_0, ey1_0, w1_0⟩ := DataW.trod_int Try.underlying3 g1_0
  obtain rfl : c1_0 = _ := by simpa using ev1_0
  subst ey1_0
  obtain ⟨a1_1, ev1_1, ey1_1, w1_1⟩ := DataW.trod_int Try.underlying3 g1_1
  obtain rfl : c1_1 = _ := by simpa using ev1_1
  subst ey1_1
  obtain ⟨a1_2, ev1_2, ey1_2, w1_2⟩ := DataW.trod_int Try.underlying3 g1_2
  obtain rfl : c1_2 = _ := by simpa using ev1_2
  subst ey1_2
  obtain ⟨s1_3, ev1_3, ey1_3, w1_3⟩ := DataW.trod_string Try.underlying9 g1_3
  obtain rfl : c1_3 = _ := by simpa using ev1_3
  subst ey1_3
  have z1_3 : s1_3.data.toList.length ≤ 140737488351232 := sized_deep hsz (by rw [Try.params7]; simp [DataW.weightsEach, DataW.weights, Try.underlying24, Try.underlying24])
  obtain ⟨a1_3, rfl⟩ : ∃ l : List UInt8, s1_3 = ⟨l.toArray⟩ := ⟨s1_3.data.toList, rfl⟩
  have hw1_4 : ∀ n ∈ DataW.weights Try.prog 22 y1_4.1, n ≤ 140737488351232 := fun n hn => sized_deep hsz (by rw [Try.params7]; simp [DataW.weightsEach, DataW.weights, Try.underlying24, Try.underlying24, hn])
  obtain ⟨u1_4, a1_4, ev1_4, f1_4_0, f1_4_1, f1_4_2⟩ := open_ents g1_4 (fun x hx => hlt x (by simp [hx])) hw1_4
  obtain rfl : c1_4 = _ := by simpa using ev1_4
  refine (walk W a0_0 w0_0 a0_1 w0_1 a0_2 w0_2 a0_3 z0_3 c0_4 a0_4 f0_4_0 f0_4_1 f0_4_2 a1_0 w1_0 a1_1 w1_1 a1_2 w1_2 a1_3 z1_3 c1_4 a1_4 f1_4_0 f1_4_1 f1_4_2).mono fun e W' ⟨he, hg⟩ => ?_
  subst he
  exact ⟨_, rfl, Copyhold.law_post laidOut (by kernel_rfl) (by kernel_rfl) Try.underlying4 rfl rfl rfl rfl hW' hg⟩

theorem over : Rows.nodeSameRow.holds Try.pinned (OpenSpec.ofChange Rows.nodeSameSpec) :=
  OpenClaim.holds_of_wide 7 Try.f7 rfl rfl rfl rfl rfl rfl rfl ⟨rfl, rfl, rfl, rfl, rfl⟩ rfl rfl rfl rfl rfl (by kernel_rfl) Try.func7 (by kernel_rfl)
    (of_decide_eq_true (by kernel_rfl)) (by unfold Func.isWrapper; first | (rw [if_pos (by decide +kernel)]; kernel_rfl) | (rw [if_neg (by decide +kernel)]; exact ⟨rfl, rfl⟩))
    (fun os started H enc _ => lifted os started H enc)

theorem proved : Rows.NodeSameSaid :=
  over
end Go.Proofs.Ytoinafcjkbdjnaa.nodeSame
