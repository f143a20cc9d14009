/- Nodes in memory. node.Right, Size, Same: they answer as the document says; old memory is as it was. -/
import Derived.Test.YtoinafcjkbdjnaaNodeP
import Derived.Test.YtoinafcjkbdjnaaNameRigh2
import Derived.Test.YtoinafcjkbdjnaaNameSame
import Derived.Test.YtoinafcjkbdjnaaOctFold
import Derived.Deep.RegionHeld3
set_option linter.unusedVariables false
namespace Go.Proofs.Ytoinafcjkbdjnaa
open Go.RowKit Copyhold Copyhold.Name

/-- a node in memory -/
def NodeV (w : World) (v : Value) (n : Nd) : Prop := ∃ A c, v = .agg #[.int .i64 n.ino, .int .i64 n.kind, .int .i64 n.links, .string ⟨n.text.toArray⟩, .slice A n.l.length c] ∧ Ents w (.slice A n.l.length c) n.l
/-- a node as a program may have it -/
def OkN (n : Nd) : Prop := (-9223372036854775808 ≤ n.ino ∧ n.ino ≤ 9223372036854775807) ∧ (-9223372036854775808 ≤ n.kind ∧ n.kind ≤ 9223372036854775807) ∧ (-9223372036854775808 ≤ n.links ∧ n.links ≤ 9223372036854775807) ∧ n.text.length ≤ 140737488351232 ∧ OkEnts n.l ∧ n.l.length ≤ 5864062014634
theorem NodeV.below {w w' : World} {v : Value} {n : Nd} (h : NodeV w v n) (hb : Below w.heap.size w w') : NodeV w' v n := by
  obtain ⟨A, c, rfl, h⟩ := h
  exact ⟨A, c, rfl, h.below hb⟩

theorem len0 (l : List Ent) : (l == []) = ((l.length : Int) == 0) := by
  cases l with
  | nil => rfl
  | cons a r =>
    have : (((a :: r).length : Int) == 0) = false := by rw [beq_eq_false_iff_ne]; simp; omega
    rw [this]
    rfl

set_option maxHeartbeats 2000000 in
theorem node_Right (n : Nd) (v : Value) (w : World) (hv : NodeV w v n) (ho : OkN n) :
    Calls Try.prog 14 #[v] w fun e w' => e = .returned (.bool (rightN n)) ∧ Below w.heap.size w w' := by
  obtain ⟨A, c, rfl, hE⟩ := hv
  obtain ⟨ino, kind, links, text, l⟩ := n
  obtain ⟨⟨o1, o2⟩, ⟨o3, o4⟩, ⟨o5, o6⟩, o7, o8, o9⟩ := ho
  simp only at o1 o2 o3 o4 o5 o6 o7 o8 o9 hE ⊢
  obtain ⟨W0, hW0⟩ : ∃ W0, W0 = w.alloc (.cells #[.int .i64 ino, .int .i64 kind, .int .i64 links, .string ⟨text.toArray⟩, .slice A l.length c] 24) := ⟨_, rfl⟩
  have hb0 : Below w.heap.size w W0 := by rw [hW0]; exact (Below.refl _ _).alloc (Nat.le_refl _) _
  have HR := Lib.hid (name_Right l A c W0 (hE.below hb0) o8 o9)
  have HW := Lib.hid hW0
  have HB0 := Lib.hid hb0
  clear hE hW0 hb0 o8
  have hrb : ∀ b, rightN ⟨ino, kind, links, text, l⟩ = b → Hid (rightN ⟨ino, kind, links, text, l⟩ = b) := fun b h => Lib.hid h
  by_cases h1 : 1 ≤ ino ∧ 0 ≤ links ∧ links ≤ 64
  · obtain ⟨h1, h2, h3⟩ := h1
    have d1 : decide (ino < 1) = false := by rw [decide_eq_false_iff_not]; omega
    have d2 : decide (links < 0) = false := by rw [decide_eq_false_iff_not]; omega
    have d3 : decide (64 < links) = false := by rw [decide_eq_false_iff_not]; omega
    rcases (show kind = 2 ∨ kind = 1 ∨ kind = 3 ∨ (kind ≠ 2 ∧ kind ≠ 1 ∧ kind ≠ 3) from by omega) with rfl | rfl | rfl | ⟨k2, k1, k3⟩
    · by_cases ht : text = []
      · subst ht
        have H := hrb (rightE l) (by simp [rightN, h1, h2, h3])
        clear hrb
        generalize rightE l = r at *
        go_enter Try.func14, Try.ntmps14
        go_wp2_with fail
        rw [← HW.out]
        refine HR.out.mono ?_
        rintro e w1 ⟨rfl, hb1⟩
        have HB1 := Lib.hid (below_trans HB0.out hb1 HB0.out.size)
        clear hb1
        go_wp2_with fail
        go_ret
        exact ⟨by rw [H.out]; rfl, HB1.out⟩
      · have H := hrb false (by simp [rightN, ht])
        have hq : (text == []) = false := by simpa using ht
        clear hrb ht
        go_enter Try.func14, Try.ntmps14
        go_wp2_with fail
        go_ret
        exact ⟨by rw [H.out]; rfl, (Below.refl _ _).alloc (Nat.le_refl _) _⟩
    · by_cases hx : text.length ≤ 4096
      · have H := hrb ((l.length : Int) == 0) (by rw [← len0]; simp [rightN, h1, h2, h3, hx])
        have hd : decide ((text.length : Int) ≤ 4096) = true := by rw [decide_eq_true_iff]; omega
        clear hrb
        go_enter Try.func14, Try.ntmps14
        go_wp2_with fail
        go_ret
        exact ⟨by rw [H.out]; rfl, (Below.refl _ _).alloc (Nat.le_refl _) _⟩
      · have H := hrb false (by simp [rightN, h1, h2, h3, hx])
        have hd : decide ((text.length : Int) ≤ 4096) = false := by rw [decide_eq_false_iff_not]; omega
        clear hrb
        go_enter Try.func14, Try.ntmps14
        go_wp2_with fail
        go_ret
        exact ⟨by rw [H.out]; rfl, (Below.refl _ _).alloc (Nat.le_refl _) _⟩
    · by_cases hx : text.length ≤ 4096
      · have H := hrb ((l.length : Int) == 0) (by rw [← len0]; simp [rightN, h1, h2, h3, hx])
        have hd : decide ((text.length : Int) ≤ 4096) = true := by rw [decide_eq_true_iff]; omega
        clear hrb
        go_enter Try.func14, Try.ntmps14
        go_wp2_with fail
        go_ret
        exact ⟨by rw [H.out]; rfl, (Below.refl _ _).alloc (Nat.le_refl _) _⟩
      · have H := hrb false (by simp [rightN, h1, h2, h3, hx])
        have hd : decide ((text.length : Int) ≤ 4096) = false := by rw [decide_eq_false_iff_not]; omega
        clear hrb
        go_enter Try.func14, Try.ntmps14
        go_wp2_with fail
        go_ret
        exact ⟨by rw [H.out]; rfl, (Below.refl _ _).alloc (Nat.le_refl _) _⟩
    · have H := hrb false (by simp [rightN, k1, k2, k3])
      have q1 : (kind == 1) = false := by simpa using k1
      have q2 : (kind == 2) = false := by simpa using k2
      have q3 : (kind == 3) = false := by simpa using k3
      clear hrb k1 k2 k3
      go_enter Try.func14, Try.ntmps14
      go_wp2_with fail
      go_ret
      exact ⟨by rw [H.out]; rfl, (Below.refl _ _).alloc (Nat.le_refl _) _⟩
  · have H := hrb false (by
      simp only [rightN]
      rw [Bool.and_eq_false_iff]
      left
      rw [Bool.eq_false_iff]
      intro h
      simp only [Bool.and_eq_true, decide_eq_true_eq] at h
      exact h1 ⟨h.1.1, h.1.2, h.2⟩)
    clear hrb
    rcases (show ino < 1 ∨ 1 ≤ ino ∧ links < 0 ∨ 1 ≤ ino ∧ 0 ≤ links ∧ 64 < links from by omega) with h | ⟨h, h'⟩ | ⟨h, h', h''⟩
    all_goals
      clear h1
      go_enter Try.func14, Try.ntmps14
      go_wp2_with fail
      go_ret
      exact ⟨by rw [H.out]; rfl, (Below.refl _ _).alloc (Nat.le_refl _) _⟩

set_option maxHeartbeats 2000000 in
theorem node_number (z : Int) (w : World) (h1 : -9223372036854775808 ≤ z) (h2 : z ≤ 9223372036854775807) :
    Calls Try.prog 31 #[.int .i64 z] w fun e w' => e = .returned (.string ⟨(numB (foldN z).toNat).toArray⟩) ∧ Below w.heap.size w w' := by
  have hf1 : 0 ≤ foldN z := by unfold foldN; split <;> omega
  have hf2 : foldN z ≤ 18446744073709551615 := by unfold foldN; split <;> omega
  have HF := Lib.hid (octet_Fold z w h1 h2)
  generalize foldN z = f at *
  go_enter Try.func31, Try.ntmps31
  go_wp2_with fail
  refine HF.out.mono ?_
  rintro e w1 ⟨rfl, rfl⟩
  go_wp2_with fail
  refine (octet_Num f w hf1 hf2).mono ?_
  rintro e w1 ⟨rfl, hb1⟩
  go_wp2_with fail
  go_ret
  exact ⟨rfl, hb1⟩

set_option maxHeartbeats 2000000 in
theorem node_Size (n : Nd) (v : Value) (w : World) (hv : NodeV w v n) (ho : OkN n) :
    Calls Try.prog 16 #[v] w fun e w' => e = .returned (.int .i64 (sizeN n)) ∧ Below w.heap.size w w' := by
  obtain ⟨A, c, rfl, hE⟩ := hv
  obtain ⟨ino, kind, links, text, l⟩ := n
  obtain ⟨⟨o1, o2⟩, ⟨o3, o4⟩, ⟨o5, o6⟩, o7, o8, o9⟩ := ho
  simp only at o1 o2 o3 o4 o5 o6 o7 o8 o9 hE ⊢
  clear hE o8
  by_cases hk : kind = 2
  · have H : Hid (sizeN ⟨ino, kind, links, text, l⟩ = l.length) := Lib.hid (if_pos hk)
    subst hk
    go_enter Try.func16, Try.ntmps16
    go_wp2_with fail
    go_ret
    exact ⟨by rw [H.out]; rfl, (Below.refl _ _).alloc (Nat.le_refl _) _⟩
  · have H : Hid (sizeN ⟨ino, kind, links, text, l⟩ = text.length) := Lib.hid (if_neg hk)
    have q2 : (kind == 2) = false := by simpa using hk
    clear hk
    go_enter Try.func16, Try.ntmps16
    go_wp2_with fail
    go_ret
    exact ⟨by rw [H.out]; rfl, (Below.refl _ _).alloc (Nat.le_refl _) _⟩
end Go.Proofs.Ytoinafcjkbdjnaa
