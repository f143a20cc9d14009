/- net.Spoil, net.Twice, net.Many: they answer as the document says; old memory is as it was. -/
import Derived.Test.YtmpiglciplpfhaaNetTake
import Derived.Lib.ConvBytes
import Derived.Laws.BitsAllLaws
set_option linter.unusedVariables false
namespace Go.Proofs.Ytmpiglciplpfhaa
open Go.RowKit Copyhold
attribute [local go_sem] piece

theorem bfind_ok (b n c i : Nat) (x : Int) (w : World) (hi : i < n) (hn : n ≤ 9223372036854775807) (hcell : w.cell? ⟨b, 0 + i, none⟩ = some (.int .u8 x)) :
    Calls Try.prog 21 #[.slice (some ⟨b, 0, none⟩) n c, .int .i64 i] w fun e w' => e = .returned (.tuple #[.int .u8 x, .bool true]) ∧ w = w' := by
  rw [Nat.zero_add] at hcell
  go_enter Try.func21, Try.ntmps21
  go_wp2_with fail
  go_ret2
  exact ⟨rfl, rfl⟩

theorem bfind_no (A : Option Addr) (n c : Nat) (i : Int) (w : World) (hn : n ≤ 9223372036854775807) (h1 : -9223372036854775808 ≤ i) (h2 : i ≤ 9223372036854775807) (h : i < 0 ∨ (n : Int) ≤ i) :
    Calls Try.prog 21 #[.slice A n c, .int .i64 i] w fun e w' => e = .returned (.tuple #[.int .u8 0, .bool false]) ∧ w = w' := by
  rcases (show i < 0 ∨ 0 ≤ i ∧ (n : Int) ≤ i from by omega) with h | ⟨h, h'⟩
  all_goals
    go_enter Try.func21, Try.ntmps21
    go_wp2_with fail
    go_ret2
    exact ⟨rfl, rfl⟩

/-- what is answered: a net, and whether something was done -/
def RetB (D : Nat → Prop) (w : World) (n : NetD) (ok : Bool) (e : Ending) (w' : World) : Prop := ∃ v, e = .returned (.tuple #[v, .bool ok]) ∧ IsNet (fun b => D b ∨ w.heap.size ≤ b) w' v n ∧ Below w.heap.size w w'

set_option maxHeartbeats 2000000 in
theorem net_Spoil_no (D : Nat → Prop) (n : NetD) (up : Bool) (i at' y : Int) (v : Value) (w : World) (hn : IsNet D w v n) (h1 : n.1.length ≤ 8796093022208) (h2 : n.2.length ≤ 8796093022208) (hi1 : -9223372036854775808 ≤ i) (hi2 : i ≤ 9223372036854775807) (ha1 : -9223372036854775808 ≤ at') (ha2 : at' ≤ 9223372036854775807)
    (hno : i < 0 ∨ ((rowN n up).length : Int) ≤ i) :
    Calls Try.prog 10 #[v, .bool up, .int .i64 i, .int .i64 at', .int .u8 y] w (RetB D w n false) := by
  obtain ⟨A, c, B, d, rfl, hu, hd, hat1, hat2⟩ := hn
  have hb : ∀ W : World, Below w.heap.size w W → RetB D w n false (.returned (.tuple #[.agg #[.slice A n.1.length c, .slice B n.2.length d], .bool false])) W := fun W hW =>
    ⟨_, rfl, IsNet.below (D := D) ⟨A, c, B, d, rfl, hu, hd, hat1, hat2⟩ hW fun _ h => .inl h, hW⟩
  have HB := Lib.hid hb
  have HNO := Lib.hid hno
  have hat : at' < 0 ∨ ((0 : Nat) : Int) ≤ at' := by omega
  have HAT := Lib.hid hat
  clear hu hd hat1 hat2 hb hno hat
  cases up
  · go_enter Try.func10, Try.ntmps10
    go_wp2_with fail
    go_region_with (first | (go_at_call 18; refine (net_row_at false A B n.1.length n.2.length c d _).mono ?_; rintro e w1 ⟨rfl, rfl⟩; simp only [pickV, Bool.false_eq_true, if_false]) | (go_at_call 17; refine (find_no B n.2.length d i _ (by omega) hi1 hi2 HNO.out).mono ?_; rintro e w1 ⟨rfl, rfl⟩))
    all_goals
      obtain ⟨W1, hW1⟩ : ∃ W1, W1 = ((((w.alloc (.cells #[.slice A n.1.length c, .slice B n.2.length d] 24)).alloc (.cells #[.int .i64 i] 3)).alloc (.cells #[.slice none 0 0, .slice none 0 0] 24)).alloc (.cells #[.slice A n.1.length c, .slice B n.2.length d] 24)).drew := ⟨_, rfl⟩
      have hs1 : W1.heap.size = w.heap.size + 4 := by rw [hW1]; simp
      have hb1 : Below w.heap.size w W1 := by rw [hW1]; exact ((((Below.refl _ _).alloc (Nat.le_refl _) _).alloc (by simp <;> omega) _).alloc (by simp <;> omega) _).alloc (by simp <;> omega) _ |>.drew
      have hA : W1.cell? ⟨w.heap.size, 0, none⟩ = some (.slice A n.1.length c) := by rw [hW1]; simp [go_sem]
      have hB : W1.cell? ⟨w.heap.size, 1, none⟩ = some (.slice B n.2.length d) := by rw [hW1]; simp [go_sem]
      have hr0 : W1.cell? ⟨w.heap.size + 2, 0, none⟩ = some (.slice none 0 0) := by rw [hW1]; simp [go_sem]
      have hr1 : W1.cell? ⟨w.heap.size + 2, 1, none⟩ = some (.slice none 0 0) := by rw [hW1]; simp [go_sem]
      have hz0 : W1.frozen? ⟨w.heap.size + 2, 0, none⟩ = false := by rw [hW1]; simp [go_sem]
      have hz1 : W1.frozen? ⟨w.heap.size + 2, 1, none⟩ = false := by rw [hW1]; simp [go_sem]
      have hcv := Lib.run_convert_string_bytes (P := Try.prog) W1 9 49 5 ⟨#[]⟩ Try.underlying9 Try.underlying49 Try.underlying5
      have hsz : (⟨#[]⟩ : ByteArray).size = 0 := rfl
      rw [hsz] at hcv
      have hb2 := bytes_below W1 5 ⟨#[]⟩
      have hs2 := Lib.bytesWorld_size W1 5 ⟨#[]⟩
      try rw [← hW1]
      generalize Lib.bytesWorld W1 5 ⟨#[]⟩ = W2 at *
      generalize grownCap W1 0 0 5 = cap at *
      obtain ⟨hc2, hf2⟩ := bcell hb2
      have HB2 := Lib.hid (hb1.trans (hb2.mono hb1.size))
      rw [hs1] at hs2 hc2 hf2 hcv
      clear hb1 hb2 hW1 hs1 hsz
      go_wp2_with fail
      refine (bfind_no _ 0 cap at' _ (by omega) ha1 ha2 HAT.out).mono ?_
      rintro e w1 ⟨rfl, rfl⟩
      go_wp2_with fail
      refine bodyPost_ret (v := .tuple #[.agg #[.slice A n.1.length c, .slice B n.2.length d], .bool false]) (by simp [results, Try.results10, go_sem, hc2, hr0, hr1, hs2]) rfl (HB.out _ ?_)
      repeat (first | exact HB2.out | (refine Below.drew ?_) | (refine Below.setCell ?_ (by simp <;> omega) _) | (refine Below.alloc ?_ (by simp [hs2] <;> omega) _))
  · go_enter Try.func10, Try.ntmps10
    go_wp2_with fail
    go_region_with (first | (go_at_call 18; refine (net_row_at true A B n.1.length n.2.length c d _).mono ?_; rintro e w1 ⟨rfl, rfl⟩; simp only [pickV, if_true]) | (go_at_call 17; refine (find_no A n.1.length c i _ (by omega) hi1 hi2 HNO.out).mono ?_; rintro e w1 ⟨rfl, rfl⟩))
    all_goals
      obtain ⟨W1, hW1⟩ : ∃ W1, W1 = ((((w.alloc (.cells #[.slice A n.1.length c, .slice B n.2.length d] 24)).alloc (.cells #[.int .i64 i] 3)).alloc (.cells #[.slice none 0 0, .slice none 0 0] 24)).alloc (.cells #[.slice A n.1.length c, .slice B n.2.length d] 24)).drew := ⟨_, rfl⟩
      have hs1 : W1.heap.size = w.heap.size + 4 := by rw [hW1]; simp
      have hb1 : Below w.heap.size w W1 := by rw [hW1]; exact ((((Below.refl _ _).alloc (Nat.le_refl _) _).alloc (by simp <;> omega) _).alloc (by simp <;> omega) _).alloc (by simp <;> omega) _ |>.drew
      have hA : W1.cell? ⟨w.heap.size, 0, none⟩ = some (.slice A n.1.length c) := by rw [hW1]; simp [go_sem]
      have hB : W1.cell? ⟨w.heap.size, 1, none⟩ = some (.slice B n.2.length d) := by rw [hW1]; simp [go_sem]
      have hr0 : W1.cell? ⟨w.heap.size + 2, 0, none⟩ = some (.slice none 0 0) := by rw [hW1]; simp [go_sem]
      have hr1 : W1.cell? ⟨w.heap.size + 2, 1, none⟩ = some (.slice none 0 0) := by rw [hW1]; simp [go_sem]
      have hz0 : W1.frozen? ⟨w.heap.size + 2, 0, none⟩ = false := by rw [hW1]; simp [go_sem]
      have hz1 : W1.frozen? ⟨w.heap.size + 2, 1, none⟩ = false := by rw [hW1]; simp [go_sem]
      have hcv := Lib.run_convert_string_bytes (P := Try.prog) W1 9 49 5 ⟨#[]⟩ Try.underlying9 Try.underlying49 Try.underlying5
      have hsz : (⟨#[]⟩ : ByteArray).size = 0 := rfl
      rw [hsz] at hcv
      have hb2 := bytes_below W1 5 ⟨#[]⟩
      have hs2 := Lib.bytesWorld_size W1 5 ⟨#[]⟩
      try rw [← hW1]
      generalize Lib.bytesWorld W1 5 ⟨#[]⟩ = W2 at *
      generalize grownCap W1 0 0 5 = cap at *
      obtain ⟨hc2, hf2⟩ := bcell hb2
      have HB2 := Lib.hid (hb1.trans (hb2.mono hb1.size))
      rw [hs1] at hs2 hc2 hf2 hcv
      clear hb1 hb2 hW1 hs1 hsz
      go_wp2_with fail
      refine (bfind_no _ 0 cap at' _ (by omega) ha1 ha2 HAT.out).mono ?_
      rintro e w1 ⟨rfl, rfl⟩
      go_wp2_with fail
      refine bodyPost_ret (v := .tuple #[.agg #[.slice A n.1.length c, .slice B n.2.length d], .bool false]) (by simp [results, Try.results10, go_sem, hc2, hr0, hr1, hs2]) rfl (HB.out _ ?_)
      repeat (first | exact HB2.out | (refine Below.drew ?_) | (refine Below.setCell ?_ (by simp <;> omega) _) | (refine Below.alloc ?_ (by simp [hs2] <;> omega) _))
end Go.Proofs.Ytmpiglciplpfhaa
