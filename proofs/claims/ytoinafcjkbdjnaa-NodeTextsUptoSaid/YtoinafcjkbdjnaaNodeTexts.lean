/- Proved: copyholdlaw07.NodeTexts returns true for every two nodes and every text, and leaves them as they were: which nodes are right, how great one is, its text, and what is taken of a text, are as the document says. Where the arguments are of bulk at most 1048576. -/
import Derived.Test.YtoinafcjkbdjnaaNodeTake
import Derived.Test.YtoinafcjkbdjnaaNodeSame2
import Derived.Test.YtoinafcjkbdjnaaRef07
import Derived.Test.YtoinafcjkbdjnaaRef07Take
import Derived.Test.YtoinafcjkbdjnaaBulk
import Derived.Test.YtoinafcjkbdjnaaNodeUpto
import Derived.Test.YtoinafcjkbdjnaaLaw
import Derived.IntWalk
import Derived.Deep.RegionHeld3
namespace Go.Proofs.Ytoinafcjkbdjnaa.nodeTexts
open Go.ChangeShapes Go.WideShapes Go.ChangeAt Go.RowKit Copyhold Copyhold.Name
open Go.ChangeMaps (open_string shut_string)
set_option linter.unusedVariables false
set_option linter.unusedSimpArgs false

theorem takeNode_few (s : List UInt8) : (takeNode s).1.l.length ≤ 256 := by
  by_cases h : (takeNode s).2.2 = 0
  · exact (takeNode_laid s h).2.2.1
  · have : (takeNode s).1 = nd0 := by
      refine thenP_bad (fun _ _ => thenP_bad (fun _ _ => thenP_bad (fun _ _ => thenP_bad (fun _ _ => thenP_bad (fun _ _ => thenP_bad (fun _ _ hh => ?_)))))) h
      unfold endN at hh ⊢
      split
      · rename_i hr
        rw [if_pos hr] at hh
        exact absurd rfl hh
      · rfl
    rw [this]
    simp [nd0]

set_option maxRecDepth 100000 in
set_option maxHeartbeats 16000000 in
theorem walk (w : World) (ino1 : Int) (w11 : (Lit.int .i64 ino1).wf = true) (kind1 : Int) (w21 : (Lit.int .i64 kind1).wf = true) (links1 : Int) (w31 : (Lit.int .i64 links1).wf = true) (text1 : List UInt8) (z1 : text1.length ≤ 1048576) (lv1 : Value) (l1 : List Ent) (hl1 : Ents w lv1 l1) (hok1 : OkEnts l1) (hsh1 : Short l1) (hn1 : l1.length ≤ 1048576) (ino2 : Int) (w12 : (Lit.int .i64 ino2).wf = true) (kind2 : Int) (w22 : (Lit.int .i64 kind2).wf = true) (links2 : Int) (w32 : (Lit.int .i64 links2).wf = true) (text2 : List UInt8) (z2 : text2.length ≤ 1048576) (lv2 : Value) (l2 : List Ent) (hl2 : Ents w lv2 l2) (hok2 : OkEnts l2) (hsh2 : Short l2) (hn2 : l2.length ≤ 1048576) (s : List UInt8) (zs : s.length ≤ 1048576) :
    Calls Try.prog 3 #[.agg #[.int .i64 ino1, .int .i64 kind1, .int .i64 links1, .string ⟨text1.toArray⟩, lv1], .agg #[.int .i64 ino2, .int .i64 kind2, .int .i64 links2, .string ⟨text2.toArray⟩, lv2], .string ⟨s.toArray⟩] w fun e w' => e = .returned (.bool true) ∧ Below w.heap.size w w' := by
  obtain ⟨A1, c1, rfl, -⟩ := hl1.shape
  have ho1 : OkN ⟨ino1, kind1, links1, text1, l1⟩ := ⟨i64ok_of w11, i64ok_of w21, i64ok_of w31, Nat.le_trans z1 (by decide), hok1, Nat.le_trans hn1 (by decide)⟩
  have HRN1 := Lib.hid (fun W (h : Below w.heap.size w W) => ref07_Right ⟨ino1, kind1, links1, text1, l1⟩ _ W ⟨A1, c1, rfl, hl1.below h⟩ ho1)
  have HNV1 := Lib.hid (fun W (h : Below w.heap.size w W) => (⟨A1, c1, rfl, hl1.below h⟩ : NodeV W (.agg #[.int .i64 ino1, .int .i64 kind1, .int .i64 links1, .string ⟨text1.toArray⟩, .slice A1 l1.length c1]) ⟨ino1, kind1, links1, text1, l1⟩))
  obtain ⟨A2, c2, rfl, -⟩ := hl2.shape
  have ho2 : OkN ⟨ino2, kind2, links2, text2, l2⟩ := ⟨i64ok_of w12, i64ok_of w22, i64ok_of w32, Nat.le_trans z2 (by decide), hok2, Nat.le_trans hn2 (by decide)⟩
  have HRN2 := Lib.hid (fun W (h : Below w.heap.size w W) => ref07_Right ⟨ino2, kind2, links2, text2, l2⟩ _ W ⟨A2, c2, rfl, hl2.below h⟩ ho2)
  have HNV2 := Lib.hid (fun W (h : Below w.heap.size w W) => (⟨A2, c2, rfl, hl2.below h⟩ : NodeV W (.agg #[.int .i64 ino2, .int .i64 kind2, .int .i64 links2, .string ⟨text2.toArray⟩, .slice A2 l2.length c2]) ⟨ino2, kind2, links2, text2, l2⟩))
  obtain ⟨W0, hW0⟩ : ∃ W0, W0 = (w.alloc (.cells #[.int .i64 ino1, .int .i64 kind1, .int .i64 links1, .string ⟨text1.toArray⟩, .slice A1 l1.length c1] 24)).alloc (.cells #[.int .i64 ino2, .int .i64 kind2, .int .i64 links2, .string ⟨text2.toArray⟩, .slice A2 l2.length c2] 24) := ⟨_, rfl⟩
  have hb0 : Below w.heap.size w W0 := by rw [hW0]; exact ((Below.refl _ _).alloc (Nat.le_refl _) _).alloc (by simp) _
  have t01 : TBox W0 w.heap.size 24 #[.int .i64 ino1, .int .i64 kind1, .int .i64 links1, .string ⟨text1.toArray⟩, .slice A1 l1.length c1] := by rw [hW0]; exact (TBox.new _ _ _).below ((Below.refl _ _).alloc (Nat.le_refl _) _)
  have t02 : TBox W0 (w.heap.size + 1) 24 #[.int .i64 ino2, .int .i64 kind2, .int .i64 links2, .string ⟨text2.toArray⟩, .slice A2 l2.length c2] := by
    rw [hW0]
    have h := TBox.new (w.alloc (.cells #[.int .i64 ino1, .int .i64 kind1, .int .i64 links1, .string ⟨text1.toArray⟩, .slice A1 l1.length c1] 24)) 24 #[.int .i64 ino2, .int .i64 kind2, .int .i64 links2, .string ⟨text2.toArray⟩, .slice A2 l2.length c2]
    rw [show (w.alloc (.cells #[.int .i64 ino1, .int .i64 kind1, .int .i64 links1, .string ⟨text1.toArray⟩, .slice A1 l1.length c1] 24)).heap.size = w.heap.size + 1 from by simp] at h
    exact h
  have HT01 := Lib.hid t01
  have HT02 := Lib.hid t02
  have HW := Lib.hid hW0
  have HB0 := Lib.hid hb0
  have HO1 := Lib.hid ho1
  have HO2 := Lib.hid ho2
  clear hl1 hok1 ho1 hl2 hok2 ho2 hW0 hb0 t01 t02 w11 w21 w31 w12 w22 w32
  by_cases hsm : l1.length ≤ 300 ∧ text1.length ≤ 5000 ∧ s.length ≤ 6000 ∧ l2.length ≤ 300
  · obtain ⟨s1, s2, s3, s4⟩ := hsm
    have d1 : decide ((300 : Int) < (l1.length : Int)) = false := by rw [decide_eq_false_iff_not]; omega
    have d2 : decide ((5000 : Int) < (text1.length : Int)) = false := by rw [decide_eq_false_iff_not]; omega
    have d3 : decide ((6000 : Int) < (s.length : Int)) = false := by rw [decide_eq_false_iff_not]; omega
    have d4 : decide ((300 : Int) < (l2.length : Int)) = false := by rw [decide_eq_false_iff_not]; omega
    have HR1 := Lib.hid (fun W (h : Below w.heap.size w W) => node_Right ⟨ino1, kind1, links1, text1, l1⟩ _ W (HNV1.out W h) HO1.out)
    have HSZ1 := Lib.hid (fun W (h : Below w.heap.size w W) => node_Size ⟨ino1, kind1, links1, text1, l1⟩ _ W (HNV1.out W h) HO1.out)
    have HSZ2 := Lib.hid (fun W (h : Below w.heap.size w W) => ref07_Size ⟨ino1, kind1, links1, text1, l1⟩ _ W (HNV1.out W h) HO1.out)
    have HTX1 := Lib.hid (fun W (h : Below w.heap.size w W) => node_Text ⟨ino1, kind1, links1, text1, l1⟩ _ W (HNV1.out W h) HO1.out hsh1 z1 hn1)
    have HTX2 := Lib.hid (fun W (h : Below w.heap.size w W) => ref07_Text ⟨ino1, kind1, links1, text1, l1⟩ _ W (HNV1.out W h) HO1.out hsh1 z1 hn1)
    have HSM1 := Lib.hid (fun W (h : Below w.heap.size w W) => node_Same ⟨ino1, kind1, links1, text1, l1⟩ ⟨ino2, kind2, links2, text2, l2⟩ _ _ W (HNV1.out W h) (HNV2.out W h) HO1.out HO2.out)
    have HSM2 := Lib.hid (fun W (h : Below w.heap.size w W) => ref07_Same ⟨ino1, kind1, links1, text1, l1⟩ ⟨ino2, kind2, links2, text2, l2⟩ _ _ W (HNV1.out W h) (HNV2.out W h) HO1.out HO2.out (by simp only; omega) (by simp only; omega))
    generalize sameN ⟨ino1, kind1, links1, text1, l1⟩ ⟨ino2, kind2, links2, text2, l2⟩ = sm at *
    generalize rightN ⟨ino1, kind1, links1, text1, l1⟩ = r1 at *
    generalize sizeN ⟨ino1, kind1, links1, text1, l1⟩ = z1s at *
    generalize nodeB ⟨ino1, kind1, links1, text1, l1⟩ = B1 at *
    have HTK1 := Lib.hid (fun W => node_Take s W (by omega))
    have HTK2 := Lib.hid (fun W => ref07_Take s W (by omega))
    have hok := takeNode_ok s
    have hfew := takeNode_few s
    generalize takeNode s = x at *
    obtain ⟨⟨i3, k3, n3, t3, l3⟩, r3, e3⟩ := x
    simp only at HTK1 HTK2 hok hfew
    have HOK3 := Lib.hid hok
    have HFEW := Lib.hid hfew
    clear hok hfew hsh1 hsh2 z1 hn1
    have HSA : Hid (∀ (W : World) (ob : Obj), (fun W => W.cell? ⟨w.heap.size, 0, none⟩ = some (.int .i64 ino1) ∧ W.cell? ⟨w.heap.size, 1, none⟩ = some (.int .i64 kind1) ∧ W.cell? ⟨w.heap.size, 2, none⟩ = some (.int .i64 links1) ∧ W.cell? ⟨w.heap.size, 3, none⟩ = some (.string ⟨text1.toArray⟩) ∧ W.cell? ⟨w.heap.size, 4, none⟩ = some (.slice A1 l1.length c1) ∧ W.cell? ⟨w.heap.size + 1, 0, none⟩ = some (.int .i64 ino2) ∧ W.cell? ⟨w.heap.size + 1, 1, none⟩ = some (.int .i64 kind2) ∧ W.cell? ⟨w.heap.size + 1, 2, none⟩ = some (.int .i64 links2) ∧ W.cell? ⟨w.heap.size + 1, 3, none⟩ = some (.string ⟨text2.toArray⟩) ∧ W.cell? ⟨w.heap.size + 1, 4, none⟩ = some (.slice A2 l2.length c2) ∧ Below w.heap.size w W) W → (fun W => W.cell? ⟨w.heap.size, 0, none⟩ = some (.int .i64 ino1) ∧ W.cell? ⟨w.heap.size, 1, none⟩ = some (.int .i64 kind1) ∧ W.cell? ⟨w.heap.size, 2, none⟩ = some (.int .i64 links1) ∧ W.cell? ⟨w.heap.size, 3, none⟩ = some (.string ⟨text1.toArray⟩) ∧ W.cell? ⟨w.heap.size, 4, none⟩ = some (.slice A1 l1.length c1) ∧ W.cell? ⟨w.heap.size + 1, 0, none⟩ = some (.int .i64 ino2) ∧ W.cell? ⟨w.heap.size + 1, 1, none⟩ = some (.int .i64 kind2) ∧ W.cell? ⟨w.heap.size + 1, 2, none⟩ = some (.int .i64 links2) ∧ W.cell? ⟨w.heap.size + 1, 3, none⟩ = some (.string ⟨text2.toArray⟩) ∧ W.cell? ⟨w.heap.size + 1, 4, none⟩ = some (.slice A2 l2.length c2) ∧ Below w.heap.size w W) (W.alloc ob)) := Lib.hid (fun W ob h => ⟨cell_alloc _ h.1, cell_alloc _ h.2.1, cell_alloc _ h.2.2.1, cell_alloc _ h.2.2.2.1, cell_alloc _ h.2.2.2.2.1, cell_alloc _ h.2.2.2.2.2.1, cell_alloc _ h.2.2.2.2.2.2.1, cell_alloc _ h.2.2.2.2.2.2.2.1, cell_alloc _ h.2.2.2.2.2.2.2.2.1, cell_alloc _ h.2.2.2.2.2.2.2.2.2.1, Below.alloc h.2.2.2.2.2.2.2.2.2.2 (Below.size h.2.2.2.2.2.2.2.2.2.2) _⟩)
    have HSB : Hid (∀ (W W2 : World), (fun W => W.cell? ⟨w.heap.size, 0, none⟩ = some (.int .i64 ino1) ∧ W.cell? ⟨w.heap.size, 1, none⟩ = some (.int .i64 kind1) ∧ W.cell? ⟨w.heap.size, 2, none⟩ = some (.int .i64 links1) ∧ W.cell? ⟨w.heap.size, 3, none⟩ = some (.string ⟨text1.toArray⟩) ∧ W.cell? ⟨w.heap.size, 4, none⟩ = some (.slice A1 l1.length c1) ∧ W.cell? ⟨w.heap.size + 1, 0, none⟩ = some (.int .i64 ino2) ∧ W.cell? ⟨w.heap.size + 1, 1, none⟩ = some (.int .i64 kind2) ∧ W.cell? ⟨w.heap.size + 1, 2, none⟩ = some (.int .i64 links2) ∧ W.cell? ⟨w.heap.size + 1, 3, none⟩ = some (.string ⟨text2.toArray⟩) ∧ W.cell? ⟨w.heap.size + 1, 4, none⟩ = some (.slice A2 l2.length c2) ∧ Below w.heap.size w W) W → Below W.heap.size W W2 → (fun W => W.cell? ⟨w.heap.size, 0, none⟩ = some (.int .i64 ino1) ∧ W.cell? ⟨w.heap.size, 1, none⟩ = some (.int .i64 kind1) ∧ W.cell? ⟨w.heap.size, 2, none⟩ = some (.int .i64 links1) ∧ W.cell? ⟨w.heap.size, 3, none⟩ = some (.string ⟨text1.toArray⟩) ∧ W.cell? ⟨w.heap.size, 4, none⟩ = some (.slice A1 l1.length c1) ∧ W.cell? ⟨w.heap.size + 1, 0, none⟩ = some (.int .i64 ino2) ∧ W.cell? ⟨w.heap.size + 1, 1, none⟩ = some (.int .i64 kind2) ∧ W.cell? ⟨w.heap.size + 1, 2, none⟩ = some (.int .i64 links2) ∧ W.cell? ⟨w.heap.size + 1, 3, none⟩ = some (.string ⟨text2.toArray⟩) ∧ W.cell? ⟨w.heap.size + 1, 4, none⟩ = some (.slice A2 l2.length c2) ∧ Below w.heap.size w W) W2) := Lib.hid (fun W W2 h hb => ⟨cell_keep hb h.1, cell_keep hb h.2.1, cell_keep hb h.2.2.1, cell_keep hb h.2.2.2.1, cell_keep hb h.2.2.2.2.1, cell_keep hb h.2.2.2.2.2.1, cell_keep hb h.2.2.2.2.2.2.1, cell_keep hb h.2.2.2.2.2.2.2.1, cell_keep hb h.2.2.2.2.2.2.2.2.1, cell_keep hb h.2.2.2.2.2.2.2.2.2.1, below_trans h.2.2.2.2.2.2.2.2.2.2 hb (Below.size h.2.2.2.2.2.2.2.2.2.2)⟩)
    have HSD : Hid (∀ (W : World), (fun W => W.cell? ⟨w.heap.size, 0, none⟩ = some (.int .i64 ino1) ∧ W.cell? ⟨w.heap.size, 1, none⟩ = some (.int .i64 kind1) ∧ W.cell? ⟨w.heap.size, 2, none⟩ = some (.int .i64 links1) ∧ W.cell? ⟨w.heap.size, 3, none⟩ = some (.string ⟨text1.toArray⟩) ∧ W.cell? ⟨w.heap.size, 4, none⟩ = some (.slice A1 l1.length c1) ∧ W.cell? ⟨w.heap.size + 1, 0, none⟩ = some (.int .i64 ino2) ∧ W.cell? ⟨w.heap.size + 1, 1, none⟩ = some (.int .i64 kind2) ∧ W.cell? ⟨w.heap.size + 1, 2, none⟩ = some (.int .i64 links2) ∧ W.cell? ⟨w.heap.size + 1, 3, none⟩ = some (.string ⟨text2.toArray⟩) ∧ W.cell? ⟨w.heap.size + 1, 4, none⟩ = some (.slice A2 l2.length c2) ∧ Below w.heap.size w W) W → (fun W => W.cell? ⟨w.heap.size, 0, none⟩ = some (.int .i64 ino1) ∧ W.cell? ⟨w.heap.size, 1, none⟩ = some (.int .i64 kind1) ∧ W.cell? ⟨w.heap.size, 2, none⟩ = some (.int .i64 links1) ∧ W.cell? ⟨w.heap.size, 3, none⟩ = some (.string ⟨text1.toArray⟩) ∧ W.cell? ⟨w.heap.size, 4, none⟩ = some (.slice A1 l1.length c1) ∧ W.cell? ⟨w.heap.size + 1, 0, none⟩ = some (.int .i64 ino2) ∧ W.cell? ⟨w.heap.size + 1, 1, none⟩ = some (.int .i64 kind2) ∧ W.cell? ⟨w.heap.size + 1, 2, none⟩ = some (.int .i64 links2) ∧ W.cell? ⟨w.heap.size + 1, 3, none⟩ = some (.string ⟨text2.toArray⟩) ∧ W.cell? ⟨w.heap.size + 1, 4, none⟩ = some (.slice A2 l2.length c2) ∧ Below w.heap.size w W) W.drew) := Lib.hid (fun W h => ⟨h.1, h.2.1, h.2.2.1, h.2.2.2.1, h.2.2.2.2.1, h.2.2.2.2.2.1, h.2.2.2.2.2.2.1, h.2.2.2.2.2.2.2.1, h.2.2.2.2.2.2.2.2.1, h.2.2.2.2.2.2.2.2.2.1, below_dn h.2.2.2.2.2.2.2.2.2.2 1⟩)
    go_enter Try.func3, Try.ntmps3
    go_wp2_with fail
    rw [← HW.out]
    refine (law_shown _).mono ?_
    rintro e w1 ⟨rfl, hb1⟩
    have HT11 := Lib.hid (HT01.out.below hb1)
    have HT12 := Lib.hid (HT02.out.below hb1)
    have HB1 := Lib.hid (below_trans HB0.out hb1 HB0.out.size)
    clear hb1
    have e10 : w1.cell? ⟨w.heap.size, 0, none⟩ = some (.int .i64 ino1) := HT11.out.cell 0
    have e11 : w1.cell? ⟨w.heap.size, 1, none⟩ = some (.int .i64 kind1) := HT11.out.cell 1
    have e12 : w1.cell? ⟨w.heap.size, 2, none⟩ = some (.int .i64 links1) := HT11.out.cell 2
    have e13 : w1.cell? ⟨w.heap.size, 3, none⟩ = some (.string ⟨text1.toArray⟩) := HT11.out.cell 3
    have e14 : w1.cell? ⟨w.heap.size, 4, none⟩ = some (.slice A1 l1.length c1) := HT11.out.cell 4
    have e20 : w1.cell? ⟨w.heap.size + 1, 0, none⟩ = some (.int .i64 ino2) := HT12.out.cell 0
    have e21 : w1.cell? ⟨w.heap.size + 1, 1, none⟩ = some (.int .i64 kind2) := HT12.out.cell 1
    have e22 : w1.cell? ⟨w.heap.size + 1, 2, none⟩ = some (.int .i64 links2) := HT12.out.cell 2
    have e23 : w1.cell? ⟨w.heap.size + 1, 3, none⟩ = some (.string ⟨text2.toArray⟩) := HT12.out.cell 3
    have e24 : w1.cell? ⟨w.heap.size + 1, 4, none⟩ = some (.slice A2 l2.length c2) := HT12.out.cell 4
    go_wp2_with fail
    refine (HTK1.out _).mono ?_
    rintro e w3 ⟨v3, rfl, ⟨A3, c3, rfl, hE3⟩, hb3⟩
    simp only at hE3 ⊢
    obtain ⟨W4, hW4⟩ : ∃ W4, W4 = w3.alloc (.cells #[.int .i64 i3, .int .i64 k3, .int .i64 n3, .string ⟨t3.toArray⟩, .slice A3 l3.length c3] 24) := ⟨_, rfl⟩
    have b34 : Below w3.heap.size w3 W4 := by rw [hW4]; exact (Below.refl _ _).alloc (Nat.le_refl _) _
    have HT41 := Lib.hid ((HT11.out.below hb3).below b34)
    have HT42 := Lib.hid ((HT12.out.below hb3).below b34)
    have HB4 := Lib.hid (below_trans (below_trans HB1.out hb3 HB1.out.size) b34 (Nat.le_trans HB1.out.size hb3.size))
    have HX4 := Lib.hid (show TBox W4 w3.heap.size 24 #[.int .i64 i3, .int .i64 k3, .int .i64 n3, .string ⟨t3.toArray⟩, .slice A3 l3.length c3] from by rw [hW4]; exact TBox.new _ _ _)
    have HE4 := Lib.hid (hE3.below b34)
    have HW4 := Lib.hid hW4
    clear hb3 hE3 b34 hW4 e10 e11 e12 e13 e14 e20 e21 e22 e23 e24
    go_wp2_with fail
    rw [← HW4.out]
    refine (HTK2.out W4).mono ?_
    rintro e w5 ⟨v5, rfl, ⟨A4, c4, rfl, hE5⟩, hb5⟩
    simp only at hE5 ⊢
    have HX5 := Lib.hid (HX4.out.below hb5)
    have HT51 := Lib.hid (HT41.out.below hb5)
    have HT52 := Lib.hid (HT42.out.below hb5)
    have HB5 := Lib.hid (below_trans HB4.out hb5 HB4.out.size)
    obtain ⟨W6, hW6⟩ : ∃ W6, W6 = w5.alloc (.cells #[.int .i64 i3, .int .i64 k3, .int .i64 n3, .string ⟨t3.toArray⟩, .slice A4 l3.length c4] 24) := ⟨_, rfl⟩
    have b56 : Below w5.heap.size w5 W6 := by rw [hW6]; exact (Below.refl _ _).alloc (Nat.le_refl _) _
    have HB6 := Lib.hid (below_trans HB5.out b56 HB5.out.size)
    have HRS := Lib.hid (ref07_Same ⟨i3, k3, n3, t3, l3⟩ ⟨i3, k3, n3, t3, l3⟩ _ _ W6 ⟨A3, c3, rfl, (HE4.out.below hb5).below b56⟩ ⟨A4, c4, rfl, hE5.below b56⟩ HOK3.out HOK3.out (by have := HFEW.out; simp only; omega) (by have := HFEW.out; simp only; omega))
    rw [sameN_self] at HRS
    have HT61 := Lib.hid (HT51.out.below b56)
    have HT62 := Lib.hid (HT52.out.below b56)
    have hs5 := HX5.out.lt
    have x0 : w5.cell? ⟨w3.heap.size, 0, none⟩ = some (.int .i64 i3) := HX5.out.cell 0
    have x1 : w5.cell? ⟨w3.heap.size, 1, none⟩ = some (.int .i64 k3) := HX5.out.cell 1
    have x2 : w5.cell? ⟨w3.heap.size, 2, none⟩ = some (.int .i64 n3) := HX5.out.cell 2
    have x3 : w5.cell? ⟨w3.heap.size, 3, none⟩ = some (.string ⟨t3.toArray⟩) := HX5.out.cell 3
    have x4 : w5.cell? ⟨w3.heap.size, 4, none⟩ = some (.slice A3 l3.length c3) := HX5.out.cell 4
    have HW6 := Lib.hid hW6
    clear hb5 hE5 b56 hW6
    go_wp2_with fail
    rw [← HW6.out]
    refine HRS.out.mono ?_
    rintro e w7 ⟨rfl, hb7⟩
    have HT71 := Lib.hid (HT61.out.below hb7)
    have HT72 := Lib.hid (HT62.out.below hb7)
    have HBX := Lib.hid (below_trans HB6.out hb7 HB6.out.size)
    clear hb7 x0 x1 x2 x3 x4 hs5
    have e10 : w7.cell? ⟨w.heap.size, 0, none⟩ = some (.int .i64 ino1) := HT71.out.cell 0
    have e11 : w7.cell? ⟨w.heap.size, 1, none⟩ = some (.int .i64 kind1) := HT71.out.cell 1
    have e12 : w7.cell? ⟨w.heap.size, 2, none⟩ = some (.int .i64 links1) := HT71.out.cell 2
    have e13 : w7.cell? ⟨w.heap.size, 3, none⟩ = some (.string ⟨text1.toArray⟩) := HT71.out.cell 3
    have e14 : w7.cell? ⟨w.heap.size, 4, none⟩ = some (.slice A1 l1.length c1) := HT71.out.cell 4
    have e20 : w7.cell? ⟨w.heap.size + 1, 0, none⟩ = some (.int .i64 ino2) := HT72.out.cell 0
    have e21 : w7.cell? ⟨w.heap.size + 1, 1, none⟩ = some (.int .i64 kind2) := HT72.out.cell 1
    have e22 : w7.cell? ⟨w.heap.size + 1, 2, none⟩ = some (.int .i64 links2) := HT72.out.cell 2
    have e23 : w7.cell? ⟨w.heap.size + 1, 3, none⟩ = some (.string ⟨text2.toArray⟩) := HT72.out.cell 3
    have e24 : w7.cell? ⟨w.heap.size + 1, 4, none⟩ = some (.slice A2 l2.length c2) := HT72.out.cell 4
    go_wp2_with fail
    refine wp_region_held_drew (S := fun W => W.cell? ⟨w.heap.size, 0, none⟩ = some (.int .i64 ino1) ∧ W.cell? ⟨w.heap.size, 1, none⟩ = some (.int .i64 kind1) ∧ W.cell? ⟨w.heap.size, 2, none⟩ = some (.int .i64 links1) ∧ W.cell? ⟨w.heap.size, 3, none⟩ = some (.string ⟨text1.toArray⟩) ∧ W.cell? ⟨w.heap.size, 4, none⟩ = some (.slice A1 l1.length c1) ∧ W.cell? ⟨w.heap.size + 1, 0, none⟩ = some (.int .i64 ino2) ∧ W.cell? ⟨w.heap.size + 1, 1, none⟩ = some (.int .i64 kind2) ∧ W.cell? ⟨w.heap.size + 1, 2, none⟩ = some (.int .i64 links2) ∧ W.cell? ⟨w.heap.size + 1, 3, none⟩ = some (.string ⟨text2.toArray⟩) ∧ W.cell? ⟨w.heap.size + 1, 4, none⟩ = some (.slice A2 l2.length c2) ∧ Below w.heap.size w W) (by kernel_rfl) (HSD.out _ ⟨e10, e11, e12, e13, e14, e20, e21, e22, e23, e24, HBX.out⟩) (fun hHeld => ?_)
    refine wpAnyH_take (i := 0) (v := ?_) rfl (by kernel_rfl) (by kernel_rfl) (by kernel_rfl) (fun _ _ _ h => h) (Or.inl ⟨by rfl, ?_⟩) (by assumption) ?_
    rotate_left
    · intro w hSw
      try dsimp only at hSw
      go_simp
      try with_reducible rfl
    rotate_left
    try simp only [Act.put, List.setIfInBounds_toArray, List.set_cons_zero, List.set_cons_succ, List.getElem_toArray, List.getElem_cons_zero, List.getElem_cons_succ]
    refine wpAnyH_take (i := 1) (v := ?_) rfl (by kernel_rfl) (by kernel_rfl) (by kernel_rfl) (fun _ _ _ h => h) (Or.inl ⟨by rfl, ?_⟩) (by assumption) ?_
    rotate_left
    · intro w hSw
      try dsimp only at hSw
      go_simp
      try with_reducible rfl
    rotate_left
    try simp only [Act.put, List.setIfInBounds_toArray, List.set_cons_zero, List.set_cons_succ, List.getElem_toArray, List.getElem_cons_zero, List.getElem_cons_succ]
    refine wpAnyH_take (i := 2) (v := ?_) rfl (by kernel_rfl) (by kernel_rfl) (by kernel_rfl) (fun _ _ _ h => h) (Or.inl ⟨by rfl, ?_⟩) (by assumption) ?_
    rotate_left
    · intro w hSw
      try dsimp only at hSw
      go_simp
      try with_reducible rfl
    rotate_left
    try simp only [Act.put, List.setIfInBounds_toArray, List.set_cons_zero, List.set_cons_succ, List.getElem_toArray, List.getElem_cons_zero, List.getElem_cons_succ]
    refine wpAnyH_take (i := 4) (v := ?_) rfl (by kernel_rfl) (by kernel_rfl) (by kernel_rfl) (fun _ _ _ h => h) (Or.inl ⟨by rfl, ?_⟩) (by assumption) ?_
    rotate_left
    · intro w hSw
      try dsimp only at hSw
      go_simp
      try with_reducible rfl
    rotate_left
    try simp only [Act.put, List.setIfInBounds_toArray, List.set_cons_zero, List.set_cons_succ, List.getElem_toArray, List.getElem_cons_zero, List.getElem_cons_succ]
    refine wpAnyH_ready (rs := [3]) (by kernel_rfl) (by simp) ?_
    refine (AllReadyH.cons rfl (fun K hK => ?_) AllReadyH.nil)
    rw [if_pos (by rfl)]
    go_wp2_with fail
    refine (HR1.out _ (hHeld.2.2.2.2.2.2.2.2.2.2)).mono ?_
    rintro e w7 ⟨rfl, hb7⟩
    replace hHeld := HSB.out _ _ hHeld hb7
    clear hb7
    refine hK.out _ _ hHeld (fun _ => ?_)
    clear hK K
    try simp only [Act.put, List.setIfInBounds_toArray, List.set_cons_zero, List.set_cons_succ, List.getElem_toArray, List.getElem_cons_zero, List.getElem_cons_succ]
    refine wpAnyH_ready (rs := [5]) (by kernel_rfl) (by simp) ?_
    refine (AllReadyH.cons rfl (fun K hK => ?_) AllReadyH.nil)
    rw [if_pos (by rfl)]
    go_wp2_with fail
    refine (HRN1.out _ (hHeld.2.2.2.2.2.2.2.2.2.2)).mono ?_
    rintro e w7 ⟨rfl, hb7⟩
    replace hHeld := HSB.out _ _ hHeld hb7
    clear hb7
    refine hK.out _ _ hHeld (fun _ => ?_)
    clear hK K
    try simp only [Act.put, List.setIfInBounds_toArray, List.set_cons_zero, List.set_cons_succ, List.getElem_toArray, List.getElem_cons_zero, List.getElem_cons_succ]
    refine wpAnyH_take (i := 6) (v := ?_) rfl (by kernel_rfl) (by kernel_rfl) (by kernel_rfl) (fun _ _ _ h => h) (Or.inl ⟨by rfl, ?_⟩) (by assumption) ?_
    rotate_left
    · intro w hSw
      try dsimp only at hSw
      go_simp
      try with_reducible rfl
    rotate_left
    try simp only [Act.put, List.setIfInBounds_toArray, List.set_cons_zero, List.set_cons_succ, List.getElem_toArray, List.getElem_cons_zero, List.getElem_cons_succ]
    refine wpAnyH_take (i := 7) (v := ?_) rfl (by kernel_rfl) (by kernel_rfl) (by kernel_rfl) (fun _ _ _ h => h) (Or.inl ⟨by rfl, ?_⟩) (by assumption) ?_
    rotate_left
    · intro w hSw
      try dsimp only at hSw
      go_simp
      try with_reducible rfl
    rotate_left
    try simp only [Act.put, List.setIfInBounds_toArray, List.set_cons_zero, List.set_cons_succ, List.getElem_toArray, List.getElem_cons_zero, List.getElem_cons_succ]
    refine wpAnyH_take (i := 8) (v := ?_) rfl (by kernel_rfl) (by kernel_rfl) (by kernel_rfl) (fun _ _ _ h => h) (Or.inl ⟨by rfl, ?_⟩) (by assumption) ?_
    rotate_left
    · intro w hSw
      try dsimp only at hSw
      go_simp
      try with_reducible rfl
    rotate_left
    try simp only [Act.put, List.setIfInBounds_toArray, List.set_cons_zero, List.set_cons_succ, List.getElem_toArray, List.getElem_cons_zero, List.getElem_cons_succ]
    refine wpAnyH_take (i := 9) (v := ?_) rfl (by kernel_rfl) (by kernel_rfl) (by kernel_rfl) (fun _ _ _ h => h) (Or.inl ⟨by rfl, ?_⟩) (by assumption) ?_
    rotate_left
    · intro w hSw
      try dsimp only at hSw
      go_simp
      try with_reducible rfl
    rotate_left
    try simp only [Act.put, List.setIfInBounds_toArray, List.set_cons_zero, List.set_cons_succ, List.getElem_toArray, List.getElem_cons_zero, List.getElem_cons_succ]
    refine wpAnyH_take (i := 11) (v := ?_) rfl (by kernel_rfl) (by kernel_rfl) (by kernel_rfl) (fun _ _ _ h => h) (Or.inl ⟨by rfl, ?_⟩) (by assumption) ?_
    rotate_left
    · intro w hSw
      try dsimp only at hSw
      go_simp
      try with_reducible rfl
    rotate_left
    try simp only [Act.put, List.setIfInBounds_toArray, List.set_cons_zero, List.set_cons_succ, List.getElem_toArray, List.getElem_cons_zero, List.getElem_cons_succ]
    refine wpAnyH_ready (rs := [10]) (by kernel_rfl) (by simp) ?_
    refine (AllReadyH.cons rfl (fun K hK => ?_) AllReadyH.nil)
    rw [if_pos (by rfl)]
    go_wp2_with fail
    refine (HSZ1.out _ (hHeld.2.2.2.2.2.2.2.2.2.2)).mono ?_
    rintro e w7 ⟨rfl, hb7⟩
    replace hHeld := HSB.out _ _ hHeld hb7
    clear hb7
    refine hK.out _ _ hHeld (fun _ => ?_)
    clear hK K
    try simp only [Act.put, List.setIfInBounds_toArray, List.set_cons_zero, List.set_cons_succ, List.getElem_toArray, List.getElem_cons_zero, List.getElem_cons_succ]
    refine wpAnyH_ready (rs := [12]) (by kernel_rfl) (by simp) ?_
    refine (AllReadyH.cons rfl (fun K hK => ?_) AllReadyH.nil)
    rw [if_pos (by rfl)]
    go_wp2_with fail
    refine (HSZ2.out _ (hHeld.2.2.2.2.2.2.2.2.2.2)).mono ?_
    rintro e w7 ⟨rfl, hb7⟩
    replace hHeld := HSB.out _ _ hHeld hb7
    clear hb7
    refine hK.out _ _ hHeld (fun _ => ?_)
    clear hK K
    try simp only [Act.put, List.setIfInBounds_toArray, List.set_cons_zero, List.set_cons_succ, List.getElem_toArray, List.getElem_cons_zero, List.getElem_cons_succ]
    refine wpAnyH_take (i := 13) (v := ?_) rfl (by kernel_rfl) (by kernel_rfl) (by kernel_rfl) (fun _ _ _ h => h) (Or.inl ⟨by rfl, ?_⟩) (by assumption) ?_
    rotate_left
    · intro w hSw
      try dsimp only at hSw
      go_simp
      try with_reducible rfl
    rotate_left
    try simp only [Act.put, List.setIfInBounds_toArray, List.set_cons_zero, List.set_cons_succ, List.getElem_toArray, List.getElem_cons_zero, List.getElem_cons_succ]
    refine wpAnyH_take (i := 14) (v := ?_) rfl (by kernel_rfl) (by kernel_rfl) (by kernel_rfl) (fun _ _ _ h => h) (Or.inl ⟨by rfl, ?_⟩) (by assumption) ?_
    rotate_left
    · intro w hSw
      try dsimp only at hSw
      go_simp
      try with_reducible rfl
    rotate_left
    try simp only [Act.put, List.setIfInBounds_toArray, List.set_cons_zero, List.set_cons_succ, List.getElem_toArray, List.getElem_cons_zero, List.getElem_cons_succ]
    refine wpAnyH_take (i := 15) (v := ?_) rfl (by kernel_rfl) (by kernel_rfl) (by kernel_rfl) (fun _ _ _ h => h) (Or.inl ⟨by rfl, ?_⟩) (by assumption) ?_
    rotate_left
    · intro w hSw
      try dsimp only at hSw
      go_simp
      try with_reducible rfl
    rotate_left
    try simp only [Act.put, List.setIfInBounds_toArray, List.set_cons_zero, List.set_cons_succ, List.getElem_toArray, List.getElem_cons_zero, List.getElem_cons_succ]
    refine wpAnyH_take (i := 16) (v := ?_) rfl (by kernel_rfl) (by kernel_rfl) (by kernel_rfl) (fun _ _ _ h => h) (Or.inl ⟨by rfl, ?_⟩) (by assumption) ?_
    rotate_left
    · intro w hSw
      try dsimp only at hSw
      go_simp
      try with_reducible rfl
    rotate_left
    try simp only [Act.put, List.setIfInBounds_toArray, List.set_cons_zero, List.set_cons_succ, List.getElem_toArray, List.getElem_cons_zero, List.getElem_cons_succ]
    refine wpAnyH_take (i := 18) (v := ?_) rfl (by kernel_rfl) (by kernel_rfl) (by kernel_rfl) (fun _ _ _ h => h) (Or.inl ⟨by rfl, ?_⟩) (by assumption) ?_
    rotate_left
    · intro w hSw
      try dsimp only at hSw
      go_simp
      try with_reducible rfl
    rotate_left
    try simp only [Act.put, List.setIfInBounds_toArray, List.set_cons_zero, List.set_cons_succ, List.getElem_toArray, List.getElem_cons_zero, List.getElem_cons_succ]
    refine wpAnyH_ready (rs := [17]) (by kernel_rfl) (by simp) ?_
    refine (AllReadyH.cons rfl (fun K hK => ?_) AllReadyH.nil)
    rw [if_pos (by rfl)]
    go_wp2_with fail
    refine (HTX1.out _ (hHeld.2.2.2.2.2.2.2.2.2.2)).mono ?_
    rintro e w7 ⟨rfl, hb7⟩
    replace hHeld := HSB.out _ _ hHeld hb7
    clear hb7
    refine hK.out _ _ hHeld (fun _ => ?_)
    clear hK K
    try simp only [Act.put, List.setIfInBounds_toArray, List.set_cons_zero, List.set_cons_succ, List.getElem_toArray, List.getElem_cons_zero, List.getElem_cons_succ]
    refine wpAnyH_ready (rs := [19]) (by kernel_rfl) (by simp) ?_
    refine (AllReadyH.cons rfl (fun K hK => ?_) AllReadyH.nil)
    rw [if_pos (by rfl)]
    go_wp2_with fail
    refine (HTX2.out _ (hHeld.2.2.2.2.2.2.2.2.2.2)).mono ?_
    rintro e w7 ⟨rfl, hb7⟩
    replace hHeld := HSB.out _ _ hHeld hb7
    clear hb7
    refine hK.out _ _ hHeld (fun _ => ?_)
    clear hK K
    try simp only [Act.put, List.setIfInBounds_toArray, List.set_cons_zero, List.set_cons_succ, List.getElem_toArray, List.getElem_cons_zero, List.getElem_cons_succ]
    refine wpAnyH_take (i := 20) (v := ?_) rfl (by kernel_rfl) (by kernel_rfl) (by kernel_rfl) (fun _ _ _ h => h) (Or.inl ⟨by rfl, ?_⟩) (by assumption) ?_
    rotate_left
    · intro w hSw
      try dsimp only at hSw
      go_simp
      try with_reducible rfl
    rotate_left
    try simp only [Act.put, List.setIfInBounds_toArray, List.set_cons_zero, List.set_cons_succ, List.getElem_toArray, List.getElem_cons_zero, List.getElem_cons_succ]
    refine wpAnyH_take (i := 21) (v := ?_) rfl (by kernel_rfl) (by kernel_rfl) (by kernel_rfl) (fun _ _ _ h => h) (Or.inl ⟨by rfl, ?_⟩) (by assumption) ?_
    rotate_left
    · intro w hSw
      try dsimp only at hSw
      go_simp
      try with_reducible rfl
    rotate_left
    try simp only [Act.put, List.setIfInBounds_toArray, List.set_cons_zero, List.set_cons_succ, List.getElem_toArray, List.getElem_cons_zero, List.getElem_cons_succ]
    refine wpAnyH_take (i := 22) (v := ?_) rfl (by kernel_rfl) (by kernel_rfl) (by kernel_rfl) (fun _ _ _ h => h) (Or.inl ⟨by rfl, ?_⟩) (by assumption) ?_
    rotate_left
    · intro w hSw
      try dsimp only at hSw
      go_simp
      try with_reducible rfl
    rotate_left
    try simp only [Act.put, List.setIfInBounds_toArray, List.set_cons_zero, List.set_cons_succ, List.getElem_toArray, List.getElem_cons_zero, List.getElem_cons_succ]
    refine wpAnyH_take (i := 23) (v := ?_) rfl (by kernel_rfl) (by kernel_rfl) (by kernel_rfl) (fun _ _ _ h => h) (Or.inl ⟨by rfl, ?_⟩) (by assumption) ?_
    rotate_left
    · intro w hSw
      try dsimp only at hSw
      go_simp
      try with_reducible rfl
    rotate_left
    try simp only [Act.put, List.setIfInBounds_toArray, List.set_cons_zero, List.set_cons_succ, List.getElem_toArray, List.getElem_cons_zero, List.getElem_cons_succ]
    refine wpAnyH_take (i := 24) (v := ?_) rfl (by kernel_rfl) (by kernel_rfl) (by kernel_rfl) (fun _ _ _ h => h) (Or.inl ⟨by rfl, ?_⟩) (by assumption) ?_
    rotate_left
    · intro w hSw
      try dsimp only at hSw
      go_simp
      try with_reducible rfl
    rotate_left
    try simp only [Act.put, List.setIfInBounds_toArray, List.set_cons_zero, List.set_cons_succ, List.getElem_toArray, List.getElem_cons_zero, List.getElem_cons_succ]
    refine wpAnyH_take (i := 25) (v := ?_) rfl (by kernel_rfl) (by kernel_rfl) (by kernel_rfl) (fun _ _ _ h => h) (Or.inl ⟨by rfl, ?_⟩) (by assumption) ?_
    rotate_left
    · intro w hSw
      try dsimp only at hSw
      go_simp
      try with_reducible rfl
    rotate_left
    try simp only [Act.put, List.setIfInBounds_toArray, List.set_cons_zero, List.set_cons_succ, List.getElem_toArray, List.getElem_cons_zero, List.getElem_cons_succ]
    refine wpAnyH_take (i := 26) (v := ?_) rfl (by kernel_rfl) (by kernel_rfl) (by kernel_rfl) (fun _ _ _ h => h) (Or.inl ⟨by rfl, ?_⟩) (by assumption) ?_
    rotate_left
    · intro w hSw
      try dsimp only at hSw
      go_simp
      try with_reducible rfl
    rotate_left
    try simp only [Act.put, List.setIfInBounds_toArray, List.set_cons_zero, List.set_cons_succ, List.getElem_toArray, List.getElem_cons_zero, List.getElem_cons_succ]
    refine wpAnyH_take (i := 27) (v := ?_) rfl (by kernel_rfl) (by kernel_rfl) (by kernel_rfl) (fun _ _ _ h => h) (Or.inl ⟨by rfl, ?_⟩) (by assumption) ?_
    rotate_left
    · intro w hSw
      try dsimp only at hSw
      go_simp
      try with_reducible rfl
    rotate_left
    try simp only [Act.put, List.setIfInBounds_toArray, List.set_cons_zero, List.set_cons_succ, List.getElem_toArray, List.getElem_cons_zero, List.getElem_cons_succ]
    refine wpAnyH_take (i := 28) (v := ?_) rfl (by kernel_rfl) (by kernel_rfl) (by kernel_rfl) (fun _ _ _ h => h) (Or.inl ⟨by rfl, ?_⟩) (by assumption) ?_
    rotate_left
    · intro w hSw
      try dsimp only at hSw
      go_simp
      try with_reducible rfl
    rotate_left
    try simp only [Act.put, List.setIfInBounds_toArray, List.set_cons_zero, List.set_cons_succ, List.getElem_toArray, List.getElem_cons_zero, List.getElem_cons_succ]
    refine wpAnyH_take (i := 29) (v := ?_) rfl (by kernel_rfl) (by kernel_rfl) (by kernel_rfl) (fun _ _ _ h => h) (Or.inl ⟨by rfl, ?_⟩) (by assumption) ?_
    rotate_left
    · intro w hSw
      try dsimp only at hSw
      go_simp
      try with_reducible rfl
    rotate_left
    try simp only [Act.put, List.setIfInBounds_toArray, List.set_cons_zero, List.set_cons_succ, List.getElem_toArray, List.getElem_cons_zero, List.getElem_cons_succ]
    refine wpAnyH_take (i := 30) (v := ?_) rfl (by kernel_rfl) (by kernel_rfl) (by kernel_rfl) (fun _ _ _ h => h) (Or.inl ⟨by rfl, ?_⟩) (by assumption) ?_
    rotate_left
    · intro w hSw
      try dsimp only at hSw
      go_simp
      try with_reducible rfl
    rotate_left
    try simp only [Act.put, List.setIfInBounds_toArray, List.set_cons_zero, List.set_cons_succ, List.getElem_toArray, List.getElem_cons_zero, List.getElem_cons_succ]
    refine wpAnyH_take (i := 31) (v := ?_) rfl (by kernel_rfl) (by kernel_rfl) (by kernel_rfl) (fun _ _ _ h => h) (Or.inl ⟨by rfl, ?_⟩) (by assumption) ?_
    rotate_left
    · intro w hSw
      try dsimp only at hSw
      go_simp
      try with_reducible rfl
    rotate_left
    try simp only [Act.put, List.setIfInBounds_toArray, List.set_cons_zero, List.set_cons_succ, List.getElem_toArray, List.getElem_cons_zero, List.getElem_cons_succ]
    refine wpAnyH_take (i := 32) (v := ?_) rfl (by kernel_rfl) (by kernel_rfl) (by kernel_rfl) (fun _ _ _ h => h) (Or.inl ⟨by rfl, ?_⟩) (by assumption) ?_
    rotate_left
    · intro w hSw
      try dsimp only at hSw
      go_simp
      try with_reducible rfl
    rotate_left
    try simp only [Act.put, List.setIfInBounds_toArray, List.set_cons_zero, List.set_cons_succ, List.getElem_toArray, List.getElem_cons_zero, List.getElem_cons_succ]
    refine wpAnyH_take (i := 33) (v := ?_) rfl (by kernel_rfl) (by kernel_rfl) (by kernel_rfl) (fun _ _ _ h => h) (Or.inl ⟨by rfl, ?_⟩) (by assumption) ?_
    rotate_left
    · intro w hSw
      try dsimp only at hSw
      go_simp
      try with_reducible rfl
    rotate_left
    try simp only [Act.put, List.setIfInBounds_toArray, List.set_cons_zero, List.set_cons_succ, List.getElem_toArray, List.getElem_cons_zero, List.getElem_cons_succ]
    refine wpAnyH_take (i := 34) (v := ?_) rfl (by kernel_rfl) (by kernel_rfl) (by kernel_rfl) (fun _ _ _ h => h) (Or.inl ⟨by rfl, ?_⟩) (by assumption) ?_
    rotate_left
    · intro w hSw
      try dsimp only at hSw
      go_simp
      try with_reducible rfl
    rotate_left
    try simp only [Act.put, List.setIfInBounds_toArray, List.set_cons_zero, List.set_cons_succ, List.getElem_toArray, List.getElem_cons_zero, List.getElem_cons_succ]
    refine wpAnyH_take (i := 35) (v := ?_) rfl (by kernel_rfl) (by kernel_rfl) (by kernel_rfl) (fun _ _ _ h => h) (Or.inl ⟨by rfl, ?_⟩) (by assumption) ?_
    rotate_left
    · intro w hSw
      try dsimp only at hSw
      go_simp
      try with_reducible rfl
    rotate_left
    try simp only [Act.put, List.setIfInBounds_toArray, List.set_cons_zero, List.set_cons_succ, List.getElem_toArray, List.getElem_cons_zero, List.getElem_cons_succ]
    refine wpAnyH_take (i := 36) (v := ?_) rfl (by kernel_rfl) (by kernel_rfl) (by kernel_rfl) (fun _ _ _ h => h) (Or.inl ⟨by rfl, ?_⟩) (by assumption) ?_
    rotate_left
    · intro w hSw
      try dsimp only at hSw
      go_simp
      try with_reducible rfl
    rotate_left
    try simp only [Act.put, List.setIfInBounds_toArray, List.set_cons_zero, List.set_cons_succ, List.getElem_toArray, List.getElem_cons_zero, List.getElem_cons_succ]
    refine wpAnyH_take (i := 37) (v := ?_) rfl (by kernel_rfl) (by kernel_rfl) (by kernel_rfl) (fun _ _ _ h => h) (Or.inl ⟨by rfl, ?_⟩) (by assumption) ?_
    rotate_left
    · intro w hSw
      try dsimp only at hSw
      go_simp
      try with_reducible rfl
    rotate_left
    try simp only [Act.put, List.setIfInBounds_toArray, List.set_cons_zero, List.set_cons_succ, List.getElem_toArray, List.getElem_cons_zero, List.getElem_cons_succ]
    refine wpAnyH_take (i := 39) (v := ?_) rfl (by kernel_rfl) (by kernel_rfl) (by kernel_rfl) (fun _ _ _ h => h) (Or.inl ⟨by rfl, ?_⟩) (by assumption) ?_
    rotate_left
    · intro w hSw
      try dsimp only at hSw
      go_simp
      try with_reducible rfl
    rotate_left
    try simp only [Act.put, List.setIfInBounds_toArray, List.set_cons_zero, List.set_cons_succ, List.getElem_toArray, List.getElem_cons_zero, List.getElem_cons_succ]
    refine wpAnyH_take (i := 40) (v := ?_) rfl (by kernel_rfl) (by kernel_rfl) (by kernel_rfl) (fun _ _ _ h => h) (Or.inl ⟨by rfl, ?_⟩) (by assumption) ?_
    rotate_left
    · intro w hSw
      try dsimp only at hSw
      go_simp
      try with_reducible rfl
    rotate_left
    try simp only [Act.put, List.setIfInBounds_toArray, List.set_cons_zero, List.set_cons_succ, List.getElem_toArray, List.getElem_cons_zero, List.getElem_cons_succ]
    refine wpAnyH_ready (rs := [38]) (by kernel_rfl) (by simp) ?_
    refine (AllReadyH.cons rfl (fun K hK => ?_) AllReadyH.nil)
    rw [if_pos (by rfl)]
    go_wp2_with fail
    refine (HSM1.out _ (hHeld.2.2.2.2.2.2.2.2.2.2)).mono ?_
    rintro e w7 ⟨rfl, hb7⟩
    replace hHeld := HSB.out _ _ hHeld hb7
    clear hb7
    refine hK.out _ _ hHeld (fun _ => ?_)
    clear hK K
    try simp only [Act.put, List.setIfInBounds_toArray, List.set_cons_zero, List.set_cons_succ, List.getElem_toArray, List.getElem_cons_zero, List.getElem_cons_succ]
    refine wpAnyH_ready (rs := [41]) (by kernel_rfl) (by simp) ?_
    refine (AllReadyH.cons rfl (fun K hK => ?_) AllReadyH.nil)
    rw [if_pos (by rfl)]
    go_wp2_with fail
    refine (HSM2.out _ (hHeld.2.2.2.2.2.2.2.2.2.2)).mono ?_
    rintro e w7 ⟨rfl, hb7⟩
    replace hHeld := HSB.out _ _ hHeld hb7
    clear hb7
    refine hK.out _ _ hHeld (fun _ => ?_)
    clear hK K
    try simp only [Act.put, List.setIfInBounds_toArray, List.set_cons_zero, List.set_cons_succ, List.getElem_toArray, List.getElem_cons_zero, List.getElem_cons_succ]
    refine wpAnyH_take (i := 42) (v := ?_) rfl (by kernel_rfl) (by kernel_rfl) (by kernel_rfl) (fun _ _ _ h => h) (Or.inl ⟨by rfl, ?_⟩) (by assumption) ?_
    rotate_left
    · intro w hSw
      try dsimp only at hSw
      go_simp
      try with_reducible rfl
    rotate_left
    try simp only [Act.put, List.setIfInBounds_toArray, List.set_cons_zero, List.set_cons_succ, List.getElem_toArray, List.getElem_cons_zero, List.getElem_cons_succ]
    refine wpAnyH_take (i := 43) (v := ?_) rfl (by kernel_rfl) (by kernel_rfl) (by kernel_rfl) (fun _ _ _ h => h) (Or.inl ⟨by rfl, ?_⟩) (by assumption) ?_
    rotate_left
    · intro w hSw
      try dsimp only at hSw
      go_simp
      try with_reducible rfl
    rotate_left
    try simp only [Act.put, List.setIfInBounds_toArray, List.set_cons_zero, List.set_cons_succ, List.getElem_toArray, List.getElem_cons_zero, List.getElem_cons_succ]
    refine wpAnyH_take (i := 44) (v := ?_) rfl (by kernel_rfl) (by kernel_rfl) (by kernel_rfl) (fun _ _ _ h => h) (Or.inl ⟨by rfl, ?_⟩) (by assumption) ?_
    rotate_left
    · intro w hSw
      try dsimp only at hSw
      go_simp
      try with_reducible rfl
    rotate_left
    try simp only [Act.put, List.setIfInBounds_toArray, List.set_cons_zero, List.set_cons_succ, List.getElem_toArray, List.getElem_cons_zero, List.getElem_cons_succ]
    refine wpAnyH_done (by kernel_rfl) ?_ _
    go_wp2_with fail
    go_ret
    exact ⟨by first | rfl | exact ret_bool (by simp), (hHeld.2.2.2.2.2.2.2.2.2.2)⟩
  · rcases (show 300 < l1.length ∨ l1.length ≤ 300 ∧ 5000 < text1.length ∨ l1.length ≤ 300 ∧ text1.length ≤ 5000 ∧ 6000 < s.length ∨ l1.length ≤ 300 ∧ text1.length ≤ 5000 ∧ s.length ≤ 6000 ∧ 300 < l2.length from by omega) with h | ⟨h, h'⟩ | ⟨h, h', h''⟩ | ⟨h, h', h'', h3⟩
    all_goals
      clear hsm
      go_enter Try.func3, Try.ntmps3
      go_wp2_with fail
      rw [← HW.out]
      refine (law_shown _).mono ?_
      rintro e w1 ⟨rfl, hb1⟩
      have HT11 := Lib.hid (HT01.out.below hb1)
      have HT12 := Lib.hid (HT02.out.below hb1)
      have HB1 := Lib.hid (below_trans HB0.out hb1 HB0.out.size)
      clear hb1
      have e10 : w1.cell? ⟨w.heap.size, 0, none⟩ = some (.int .i64 ino1) := HT11.out.cell 0
      have e11 : w1.cell? ⟨w.heap.size, 1, none⟩ = some (.int .i64 kind1) := HT11.out.cell 1
      have e12 : w1.cell? ⟨w.heap.size, 2, none⟩ = some (.int .i64 links1) := HT11.out.cell 2
      have e13 : w1.cell? ⟨w.heap.size, 3, none⟩ = some (.string ⟨text1.toArray⟩) := HT11.out.cell 3
      have e14 : w1.cell? ⟨w.heap.size, 4, none⟩ = some (.slice A1 l1.length c1) := HT11.out.cell 4
      have e20 : w1.cell? ⟨w.heap.size + 1, 0, none⟩ = some (.int .i64 ino2) := HT12.out.cell 0
      have e21 : w1.cell? ⟨w.heap.size + 1, 1, none⟩ = some (.int .i64 kind2) := HT12.out.cell 1
      have e22 : w1.cell? ⟨w.heap.size + 1, 2, none⟩ = some (.int .i64 links2) := HT12.out.cell 2
      have e23 : w1.cell? ⟨w.heap.size + 1, 3, none⟩ = some (.string ⟨text2.toArray⟩) := HT12.out.cell 3
      have e24 : w1.cell? ⟨w.heap.size + 1, 4, none⟩ = some (.slice A2 l2.length c2) := HT12.out.cell 4
      go_wp2_with fail
      go_ret
      exact ⟨rfl, HB1.out⟩
theorem own : ownKnob Try.prog.godebug = none := by kernel_rfl
theorem laidOut : laidOutB Try.prog = true := by kernel_rfl
theorem cellscopyhold_api_Node : Try.prog.cellsOf 24 = 5 := by kernel_rfl
theorem cellsint : Try.prog.cellsOf 3 = 1 := by kernel_rfl
theorem cellsstring : Try.prog.cellsOf 9 = 1 := by kernel_rfl
theorem cells__api_Entry : Try.prog.cellsOf 22 = 1 := by kernel_rfl

set_option maxRecDepth 100000 in
set_option maxHeartbeats 1000000 in
theorem lifted (os : Os) (started : os.Started) (H : Type) (enc : TypeId × Value → H) (F : Stop.Interp) :
    ReturnsInHanded {} Try.checked os 3 .any ((Rows.OpenSpec.upto Rows.nodeTextsSpec).pre6 enc Try.prog Try.f3 Rows.nodeTextsUptoRow.domain false) (((Rows.OpenSpec.upto Rows.nodeTextsSpec).at F).post enc Try.prog Try.f3 false true false false) := by
  refine returnsInHanded_of_cond (C := Try.checked) (s := Rows.OpenSpec.upto Rows.nodeTextsSpec) (k := Rows.uptoSmall) rfl own started (by kernel_rfl) Try.func3
    (OpenSpec.witness (enc := enc) (C := Try.checked) (s := Rows.OpenSpec.upto Rows.nodeTextsSpec) (k := Rows.uptoSmall) rfl false ⟨#[], #[.agg #[.int .i64 0, .int .i64 0, .int .i64 0, .string ByteArray.empty, .slice none 0 0], .agg #[.int .i64 0, .int .i64 0, .int .i64 0, .string ByteArray.empty, .slice none 0 0], .string ByteArray.empty], []⟩ 8 (by kernel_rfl) (by kernel_rfl) (by kernel_rfl)
      (x := ([.agg [.lit (.int .i64 0), .lit (.int .i64 0), .lit (.int .i64 0), .lit (.string []), .nil], .agg [.lit (.int .i64 0), .lit (.int .i64 0), .lit (.int .i64 0), .lit (.string []), .nil], .lit (.string [])], [], [])) (by kernel_rfl) rfl (by kernel_rfl)) ?_
  intro W base args ds gs before hval0 hW hcnd hk _
  have hval : ∀ (j : Nat) t v, Try.f3.params[j]? = some t → args[j]? = some v → Value.okWide Try.prog W .any base t v := hval0
  have hW' := hW
  have hlt := hW.lt
  obtain ⟨p, q, hA0, hV, rfl, hfz, hnd⟩ := hW
  have hA : DataW.TrodAll enc Try.prog W 0 (fun _ => true) true Try.f3.params.toList args.toList ds p := hA0
  rw [Try.params3] at hA hval
  obtain ⟨v0, vs0, d0, ds0, p0, q0, hargs, rfl, rfl, h0, r0⟩ := trodAll_cons hA
  obtain ⟨v1, vs1, d1, ds1, p1, q1, rfl, rfl, rfl, h1, r1⟩ := trodAll_cons r0
  obtain ⟨v2, vs2, d2, ds2, p2, q2, rfl, rfl, rfl, h2, r2⟩ := trodAll_cons r1
  obtain ⟨rfl, rfl, rfl⟩ := trodAll_nil r2
  obtain rfl : args = #[v0, v1, v2] := by cases args; simp_all
  obtain ⟨rfl, rfl⟩ := trodVars_none hV
  obtain ⟨cs0, rfl, hcz0⟩ := okWide_struct Try.underlying24 (hval 0 24 v0 rfl rfl)
  rw [cellscopyhold_api_Node] at hcz0
  obtain ⟨c0_0, c0_1, c0_2, c0_3, c0_4, rfl⟩ := array5_of hcz0
  obtain ⟨fuel0, hf0⟩ := h0
  obtain ⟨xs0, m0, _, hx0, _, hlen0, hfl0⟩ := DataW.trod_struct Try.underlying24 hf0
  obtain ⟨y0_0, y0_1, y0_2, y0_3, y0_4, rfl⟩ := list5 hlen0
  have g0_0 : DataW.trod enc Try.prog W 0 (fun _ => true) true m0 3 [c0_0] = some y0_0 := by have h := hfl0 0 _ rfl; simpa [Value.cells, cellsint] using h
  have g0_1 : DataW.trod enc Try.prog W 0 (fun _ => true) true m0 3 [c0_1] = some y0_1 := by have h := hfl0 1 _ rfl; simpa [Value.cells, cellsint] using h
  have g0_2 : DataW.trod enc Try.prog W 0 (fun _ => true) true m0 3 [c0_2] = some y0_2 := by have h := hfl0 2 _ rfl; simpa [Value.cells, cellsint] using h
  have g0_3 : DataW.trod enc Try.prog W 0 (fun _ => true) true m0 9 [c0_3] = some y0_3 := by have h := hfl0 3 _ rfl; simpa [Value.cells, cellsstring] using h
  have g0_4 : DataW.trod enc Try.prog W 0 (fun _ => true) true m0 22 [c0_4] = some y0_4 := by have h := hfl0 4 _ rfl; simpa [Value.cells, cells__api_Entry] using h
  simp only [Prod.mk.injEq] at hx0
  obtain ⟨rfl, hp0⟩ := hx0
  subst hp0
  have hk0 := bulk_le hk (d := .agg [y0_0.1, y0_1.1, y0_2.1, y0_3.1, y0_4.1]) (by simp)
  obtain ⟨a0_0, ev0_0, ey0_0, w0_0⟩ := DataW.trod_int Try.underlying3 g0_0
  obtain rfl : c0_0 = _ := by simpa using ev0_0
  subst ey0_0
  obtain ⟨a0_1, ev0_1, ey0_1, w0_1⟩ := DataW.trod_int Try.underlying3 g0_1
  obtain rfl : c0_1 = _ := by simpa using ev0_1
  subst ey0_1
  obtain ⟨a0_2, ev0_2, ey0_2, w0_2⟩ := DataW.trod_int Try.underlying3 g0_2
  obtain rfl : c0_2 = _ := by simpa using ev0_2
  subst ey0_2
  obtain ⟨s0_3, ev0_3, ey0_3, w0_3⟩ := DataW.trod_string Try.underlying9 g0_3
  obtain rfl : c0_3 = _ := by simpa using ev0_3
  subst ey0_3
  have z0_3 : s0_3.data.toList.length ≤ 1048576 := bulk_string (bulk_agg hk0 (d := .lit (.string s0_3.data.toList)) (by simp))
  obtain ⟨a0_3, rfl⟩ : ∃ l : List UInt8, s0_3 = ⟨l.toArray⟩ := ⟨s0_3.data.toList, rfl⟩
  have hw0_4 : Rows.uptoBulk y0_4.1 ≤ 1048576 := bulk_agg hk0 (d := y0_4.1) (by simp)
  obtain ⟨u0_4, a0_4, ev0_4, f0_4_0, f0_4_1, f0_4_2, f0_4_3⟩ := open_ents_upto g0_4 (fun x hx => hlt x (by simp [hx])) hw0_4
  obtain rfl : c0_4 = _ := by simpa using ev0_4
  obtain ⟨cs1, rfl, hcz1⟩ := okWide_struct Try.underlying24 (hval 1 24 v1 rfl rfl)
  rw [cellscopyhold_api_Node] at hcz1
  obtain ⟨c1_0, c1_1, c1_2, c1_3, c1_4, rfl⟩ := array5_of hcz1
  obtain ⟨fuel1, hf1⟩ := h1
  obtain ⟨xs1, m1, _, hx1, _, hlen1, hfl1⟩ := DataW.trod_struct Try.underlying24 hf1
  obtain ⟨y1_0, y1_1, y1_2, y1_3, y1_4, rfl⟩ := list5 hlen1
  have g1_0 : DataW.trod enc Try.prog W 0 (fun _ => true) true m1 3 [c1_0] = some y1_0 := by have h := hfl1 0 _ rfl; simpa [Value.cells, cellsint] using h
  have g1_1 : DataW.trod enc Try.prog W 0 (fun _ => true) true m1 3 [c1_1] = some y1_1 := by have h := hfl1 1 _ rfl; simpa [Value.cells, cellsint] using h
  have g1_2 : DataW.trod enc Try.prog W 0 (fun _ => true) true m1 3 [c1_2] = some y1_2 := by have h := hfl1 2 _ rfl; simpa [Value.cells, cellsint] using h
  have g1_3 : DataW.trod enc Try.prog W 0 (fun _ => true) true m1 9 [c1_3] = some y1_3 := by have h := hfl1 3 _ rfl; simpa [Value.cells, cellsstring] using h
  have g1_4 : DataW.trod enc Try.prog W 0 (fun _ => true) true m1 22 [c1_4] = some y1_4 := by have h := hfl1 4 _ rfl; simpa [Value.cells, cells__api_Entry] using h
  simp only [Prod.mk.injEq] at hx1
  obtain ⟨rfl, hp1⟩ := hx1
  subst hp1
  have hk1 := bulk_le hk (d := .agg [y1_0.1, y1_1.1, y1_2.1, y1_3.1, y1_4.1]) (by simp)
  obtain ⟨a1_0, ev1_0, ey1_0, w1_0⟩ := DataW.trod_int Try.underlying3 g1_0
  obtain rfl : c1_0 = _ := by simpa using ev1_0
  subst ey1_0
  obtain ⟨a1_1, ev1_1, ey1_1, w1_1⟩ := DataW.trod_int Try.underlying3 g1_1
  obtain rfl : c1_1 = _ := by simpa using ev1_1
  subst ey1_1
  obtain ⟨a1_2, ev1_2, ey1_2, w1_2⟩ := DataW.trod_int Try.underlying3 g1_2
  obtain rfl : c1_2 = _ := by simpa using ev1_2
  subst ey1_2
  obtain ⟨s1_3, ev1_3, ey1_3, w1_3⟩ := DataW.trod_string Try.underlying9 g1_3
  obtain rfl : c1_3 = _ := by simpa using ev1_3
  subst ey1_3
  have z1_3 : s1_3.data.toList.length ≤ 1048576 := bulk_string (bulk_agg hk1 (d := .lit (.string s1_3.data.toList)) (by simp))
  obtain ⟨a1_3, rfl⟩ : ∃ l : List UInt8, s1_3 = ⟨l.toArray⟩ := ⟨s1_3.data.toList, rfl⟩
  have hw1_4 : Rows.uptoBulk y1_4.1 ≤ 1048576 := bulk_agg hk1 (d := y1_4.1) (by simp)
  obtain ⟨u1_4, a1_4, ev1_4, f1_4_0, f1_4_1, f1_4_2, f1_4_3⟩ := open_ents_upto g1_4 (fun x hx => hlt x (by simp [hx])) hw1_4
  obtain rfl : c1_4 = _ := by simpa using ev1_4
  obtain ⟨s2, rfl, rfl, rfl, w2⟩ := open_string Try.underlying9 (hval 2 9 v2 rfl rfl) h2
  have z2 : s2.data.toList.length ≤ 1048576 := bulk_string (bulk_le hk (d := .lit (.string s2.data.toList)) (by simp))
  obtain ⟨a2, rfl⟩ : ∃ l : List UInt8, s2 = ⟨l.toArray⟩ := ⟨s2.data.toList, rfl⟩
  refine (walk W a0_0 w0_0 a0_1 w0_1 a0_2 w0_2 a0_3 z0_3 c0_4 a0_4 f0_4_0 f0_4_1 f0_4_2 f0_4_3 a1_0 w1_0 a1_1 w1_1 a1_2 w1_2 a1_3 z1_3 c1_4 a1_4 f1_4_0 f1_4_1 f1_4_2 f1_4_3 a2 z2).mono fun e W' ⟨he, hg⟩ => ?_
  subst he
  exact ⟨_, rfl, Copyhold.law_post laidOut (by kernel_rfl) (by kernel_rfl) Try.underlying4 rfl rfl rfl rfl hW' hg⟩

theorem over : Rows.nodeTextsUptoRow.holds Try.pinned (Rows.OpenSpec.upto Rows.nodeTextsSpec) :=
  OpenClaim.holds_of_cond 3 Try.f3 rfl rfl rfl rfl rfl rfl rfl ⟨rfl, rfl, rfl, rfl, rfl⟩ rfl rfl rfl rfl rfl (by kernel_rfl) Try.func3 (by kernel_rfl)
    (of_decide_eq_true (by kernel_rfl)) (by unfold Func.isWrapper; first | (rw [if_pos (by decide +kernel)]; kernel_rfl) | (rw [if_neg (by decide +kernel)]; exact ⟨rfl, rfl⟩))
    (fun os started H enc _ F => lifted os started H enc F)

theorem proved : Rows.NodeTextsUptoSaid :=
  over
end Go.Proofs.Ytoinafcjkbdjnaa.nodeTexts
