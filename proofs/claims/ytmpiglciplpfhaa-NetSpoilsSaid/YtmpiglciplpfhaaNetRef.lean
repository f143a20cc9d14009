/- copyholdref19.Few, Row, Same, net.Many, net.Twice, the statements' 'shown': they answer as the document says; old memory is as it was. -/
import Derived.Test.YtmpiglciplpfhaaNetSpoil3
import Derived.Test.YtmpiglciplpfhaaRefStrings
set_option linter.unusedVariables false
namespace Go.Proofs.Ytmpiglciplpfhaa
open Go.RowKit Copyhold

/-- yes or no -/
def SomeBool (w : World) (e : Ending) (w' : World) : Prop := ∃ b : Bool, e = .returned (.bool b) ∧ Below w.heap.size w w'

set_option maxHeartbeats 1000000 in
theorem ref_Few (D : Nat → Prop) (n : NetD) (v : Value) (w : World) (hn : IsNet D w v n) (h1 : n.1.length ≤ 8796093022208) (h2 : n.2.length ≤ 8796093022208) :
    Calls Try.prog 7 #[v] w (SomeBool w) := by
  obtain ⟨A, c, B, d, rfl, hu, hd, hat1, hat2⟩ := hn
  have hb : Below w.heap.size w (w.alloc (.cells #[.slice A n.1.length c, .slice B n.2.length d] 24)) := (Below.refl _ _).alloc (Nat.le_refl _) _
  have HU := Lib.hid (fun k : Nat => hu.below (below_dn hb k))
  have HD := Lib.hid (fun k : Nat => hd.below (below_dn hb k))
  have HB := Lib.hid hb
  clear hu hd hat1 hat2 hb
  go_enter Try.func7, Try.ntmps7
  go_wp2_with fail
  go_quiet (first | (go_at_call_of 16 (Value.slice A n.1.length c); exact quietL (ref_LongAny (.slice A n.1.length c) n.1 _ (HU.out _) h1)) | (go_at_call_of 16 (Value.slice B n.2.length d); exact quietL (ref_LongAny (.slice B n.2.length d) n.2 _ (HD.out _) h2)))
  go_wp2_with fail
  all_goals
    go_ret
    exact ⟨_, rfl, below_dn HB.out _⟩

theorem ref_Row (up : Bool) (A B : Option Addr) (n m c d : Nat) (w : World) :
    Calls Try.prog 11 #[.agg #[.slice A n c, .slice B m d], .bool up] w fun e w' => e = .returned (pickV up (.slice A n c) (.slice B m d)) ∧ Below w.heap.size w w' := by
  cases up
  all_goals
    go_enter Try.func11, Try.ntmps11
    go_wp2_with fail
    go_ret
    exact ⟨rfl, (Below.refl _ _).alloc (Nat.le_refl _) _⟩

theorem net_Many_at (A B : Option Addr) (n m c d : Nat) (w : World) (h1 : n ≤ 8796093022208) (h2 : m ≤ 8796093022208) :
    Calls Try.prog 15 #[.agg #[.slice A n c, .slice B m d]] w fun e w' => e = .returned (.int .i64 ((n : Int) + m)) ∧ w' = w.alloc (.cells #[.slice A n c, .slice B m d] 24) := by
  go_enter Try.func15, Try.ntmps15
  go_wp2_with fail
  go_ret
  exact ⟨rfl, rfl⟩

theorem net_Many (A B : Option Addr) (n m c d : Nat) (w : World) (h1 : n ≤ 8796093022208) (h2 : m ≤ 8796093022208) :
    Calls Try.prog 15 #[.agg #[.slice A n c, .slice B m d]] w fun e w' => e = .returned (.int .i64 ((n : Int) + m)) ∧ Below w.heap.size w w' := by
  go_enter Try.func15, Try.ntmps15
  go_wp2_with fail
  go_ret
  exact ⟨rfl, (Below.refl _ _).alloc (Nat.le_refl _) _⟩

def sameN (a b : NetD) : Bool := sameTexts a.1 b.1 && sameTexts a.2 b.2

set_option maxHeartbeats 1000000 in
theorem ref_SameN (D D' : Nat → Prop) (a b : NetD) (v v' : Value) (w : World) (ha : IsNet D w v a) (hb : IsNet D' w v' b) (h1 : a.1.length ≤ 8796093022208) (h2 : a.2.length ≤ 8796093022208) (h3 : b.1.length ≤ 8796093022208) (h4 : b.2.length ≤ 8796093022208) :
    Calls Try.prog 14 #[v, v'] w fun e w' => e = .returned (.bool (sameN a b)) ∧ Below w.heap.size w w' := by
  obtain ⟨A, c, B, d, rfl, hu, hd, _, _⟩ := ha
  obtain ⟨A', c', B', d', rfl, hu', hd', _, _⟩ := hb
  obtain ⟨W, hW⟩ : ∃ W, W = (w.alloc (.cells #[.slice A a.1.length c, .slice B a.2.length d] 24)).alloc (.cells #[.slice A' b.1.length c', .slice B' b.2.length d'] 24) := ⟨_, rfl⟩
  have hb : Below w.heap.size w W := by rw [hW]; exact ((Below.refl _ _).alloc (Nat.le_refl _) _).alloc (by simp) _
  have hs : W.heap.size = w.heap.size + 2 := by rw [hW]; simp
  have c1 : W.cell? ⟨w.heap.size, 1, none⟩ = some (.slice B a.2.length d) := by rw [hW]; simp [go_sem]
  have c2 : W.cell? ⟨w.heap.size + 1, 1, none⟩ = some (.slice B' b.2.length d') := by rw [hW]; simp [go_sem]
  have HU := Lib.hid (hu.below hb)
  have HD := Lib.hid (hd.below hb)
  have HU' := Lib.hid (hu'.below hb)
  have HD' := Lib.hid (hd'.below hb)
  have HB := Lib.hid hb
  have HW := Lib.hid hW
  clear hu hd hu' hd' hb hW
  go_enter Try.func14, Try.ntmps14
  go_wp2_with fail
  rw [← HW.out]
  refine (ref_Strings _ _ a.1 b.1 _ HU.out HU'.out h1 h3).mono ?_
  rintro e w1 ⟨rfl, hb1⟩
  obtain ⟨hc1, hf1⟩ := bcell hb1
  rw [hs] at hc1 hf1
  have HB1 := Lib.hid hb1
  clear hb1
  go_wp2_with fail
  refine (ref_Strings _ _ a.2 b.2 _ (HD.out.below HB1.out) (HD'.out.below HB1.out) h2 h4).mono ?_
  rintro e w2 ⟨rfl, hb2⟩
  have hbb := HB.out.trans ((HB1.out.trans (hb2.mono HB1.out.size)).mono HB.out.size)
  have HBB := Lib.hid hbb
  have hfin : (sameTexts a.1 b.1 && sameTexts a.2 b.2) = sameN a b := rfl
  have HF := Lib.hid hfin
  generalize sameTexts a.1 b.1 = p at *
  generalize sameTexts a.2 b.2 = q at *
  clear hfin hbb hb2
  cases p <;> cases q
  all_goals
    go_wp2_with fail
    go_ret
    exact ⟨by rw [← HF.out]; rfl, HBB.out⟩
end Go.Proofs.Ytmpiglciplpfhaa
