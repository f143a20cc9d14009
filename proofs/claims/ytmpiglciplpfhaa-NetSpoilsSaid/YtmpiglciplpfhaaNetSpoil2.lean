/- net.Spoil at a place that isn't there: they answer as the document says; old memory is as it was. -/
import Derived.Test.YtmpiglciplpfhaaNetSpoil
import Derived.Lib.ConvBytes
import Derived.Laws.BitsAllLaws
set_option linter.unusedVariables false
namespace Go.Proofs.Ytmpiglciplpfhaa
open Go.RowKit Copyhold
attribute [local go_sem] piece


/-- a text with a byte spoilt -/
def spoilB (s : List UInt8) (a : Nat) (y : UInt8) : List UInt8 := s.set a (s.getD a 0 ^^^ y)

theorem eg_spoil : ∀ args w, (callFunc 22 args).run Try.prog w = .ok (.enter 22 args) w := fun _ _ => rfl

set_option maxHeartbeats 4000000 in
theorem net_Spoil_out (D : Nat → Prop) (n : NetD) (up : Bool) (i : Nat) (at' : Int) (y : UInt8) (s : List UInt8) (v : Value) (w : World) (hn : IsNet D w v n) (hD : ∀ b, D b → b < w.heap.size) (h1 : n.1.length ≤ 8796093022208) (h2 : n.2.length ≤ 8796093022208)
    (hi : (rowN n up)[i]? = some s) (hsl : s.length ≤ 140737488355328) (ha1 : -9223372036854775808 ≤ at') (ha2 : at' ≤ 9223372036854775807) (hat : at' < 0 ∨ (s.length : Int) ≤ at') :
    Calls Try.prog 10 #[v, .bool up, .int .i64 i, .int .i64 at', .int .u8 (y.toNat : Int)] w (RetB D w n false) := by
  obtain ⟨A, c, B, d, rfl, hu, hd, hat1, hat2⟩ := hn
  have hb : ∀ W : World, Below w.heap.size w W → RetB D w n false (.returned (.tuple #[.agg #[.slice A n.1.length c, .slice B n.2.length d], .bool false])) W := fun W hW =>
    ⟨_, rfl, IsNet.below (D := D) ⟨A, c, B, d, rfl, hu, hd, hat1, hat2⟩ hW fun _ h => .inl h, hW⟩
  have HB := Lib.hid hb
  have HI := Lib.hid hi
  have hil := (List.getElem?_eq_some_iff.1 hi).1
  have HU := Lib.hid hu
  have HD := Lib.hid hd
  have HAT := Lib.hid hat
  clear hu hd hat1 hat2 hb hi hat hD
  cases up
  · simp only [rowN, Bool.false_eq_true, if_false] at HI hil ⊢
    have hb0 : Below w.heap.size w (((w.alloc (.cells #[.slice A n.1.length c, .slice B n.2.length d] 24)).alloc (.cells #[.int .i64 i] 3)).alloc (.cells #[.slice none 0 0, .slice none 0 0] 24)) := (((Below.refl _ _).alloc (Nat.le_refl _) _).alloc (by simp) _).alloc (by simp <;> omega) _
    have hbx : ∀ o : Obj, Below w.heap.size w (((((w.alloc (.cells #[.slice A n.1.length c, .slice B n.2.length d] 24)).alloc (.cells #[.int .i64 i] 3)).alloc (.cells #[.slice none 0 0, .slice none 0 0] 24))).alloc o) := fun o => hb0.alloc (by simp <;> omega) o
    have HRX := Lib.hid (fun o : Obj => HD.out.below (hbx o).drew)
    clear hb0 hbx
    go_enter Try.func10, Try.ntmps10
    go_wp2_with fail
    go_region_with (first | (go_at_call 18; refine (net_row_at false A B n.1.length n.2.length c d _).mono ?_; rintro e w1 ⟨rfl, rfl⟩; simp only [pickV, Bool.false_eq_true, if_false]) | (go_at_call 17; refine (find_ok B n.2.length d n.2 i s _ (HRX.out _) HI.out (by omega)).mono ?_; rintro e w1 ⟨rfl, rfl⟩))
    all_goals
      obtain ⟨W1, hW1⟩ : ∃ W1, W1 = ((((w.alloc (.cells #[.slice A n.1.length c, .slice B n.2.length d] 24)).alloc (.cells #[.int .i64 i] 3)).alloc (.cells #[.slice none 0 0, .slice none 0 0] 24)).alloc (.cells #[.slice A n.1.length c, .slice B n.2.length d] 24)).drew := ⟨_, rfl⟩
      have hs1 : W1.heap.size = w.heap.size + 4 := by rw [hW1]; simp
      have hb1 : Below w.heap.size w W1 := by rw [hW1]; exact ((((Below.refl _ _).alloc (Nat.le_refl _) _).alloc (by simp <;> omega) _).alloc (by simp <;> omega) _).alloc (by simp <;> omega) _ |>.drew
      have hA : W1.cell? ⟨w.heap.size, 0, none⟩ = some (.slice A n.1.length c) := by rw [hW1]; simp [go_sem]
      have hB : W1.cell? ⟨w.heap.size, 1, none⟩ = some (.slice B n.2.length d) := by rw [hW1]; simp [go_sem]
      have hI : W1.cell? ⟨w.heap.size + 1, 0, none⟩ = some (.int .i64 i) := by rw [hW1]; simp [go_sem]
      have hr0 : W1.cell? ⟨w.heap.size + 2, 0, none⟩ = some (.slice none 0 0) := by rw [hW1]; simp [go_sem]
      have hr1 : W1.cell? ⟨w.heap.size + 2, 1, none⟩ = some (.slice none 0 0) := by rw [hW1]; simp [go_sem]
      have hz0 : W1.frozen? ⟨w.heap.size + 2, 0, none⟩ = false := by rw [hW1]; simp [go_sem]
      have hz1 : W1.frozen? ⟨w.heap.size + 2, 1, none⟩ = false := by rw [hW1]; simp [go_sem]
      have hcv := Lib.run_convert_string_bytes (P := Try.prog) W1 9 49 5 ⟨s.toArray⟩ Try.underlying9 Try.underlying49 Try.underlying5
      have hsz : (⟨s.toArray⟩ : ByteArray).size = s.length := by simp [ByteArray.size]
      rw [hsz] at hcv
      have hb2 := bytes_below W1 5 ⟨s.toArray⟩
      have hs2 := Lib.bytesWorld_size W1 5 ⟨s.toArray⟩
      have HCELL := Lib.hid (bytes_cell W1 5 s)
      have HFREE := Lib.hid (bytes_free W1 5 s)
      try rw [← hW1]
      generalize Lib.bytesWorld W1 5 ⟨s.toArray⟩ = W2 at *
      generalize grownCap W1 s.length 0 5 = cap at *
      obtain ⟨hc2, hf2⟩ := bcell hb2
      have HB2 := Lib.hid (hb1.trans (hb2.mono hb1.size))
      rw [hs1] at hs2 hc2 hf2 hcv HCELL HFREE
      clear hb1 hb2 hW1 hs1 hsz
      go_wp2_with fail
      refine (bfind_no _ s.length cap at' _ (by omega) ha1 ha2 HAT.out).mono ?_
      rintro e w1 ⟨rfl, rfl⟩
      go_wp2_with fail
      refine bodyPost_ret (v := .tuple #[.agg #[.slice A n.1.length c, .slice B n.2.length d], .bool false]) (by simp [results, Try.results10, go_sem, hc2, hr0, hr1, hs2]) rfl (HB.out _ ?_)
      repeat (first | exact HB2.out | (refine Below.drew ?_) | (refine Below.setCell ?_ (by simp <;> omega) _) | (refine Below.alloc ?_ (by simp [hs2] <;> omega) _))
  · simp only [rowN, if_true] at HI hil ⊢
    have hb0 : Below w.heap.size w (((w.alloc (.cells #[.slice A n.1.length c, .slice B n.2.length d] 24)).alloc (.cells #[.int .i64 i] 3)).alloc (.cells #[.slice none 0 0, .slice none 0 0] 24)) := (((Below.refl _ _).alloc (Nat.le_refl _) _).alloc (by simp) _).alloc (by simp <;> omega) _
    have hbx : ∀ o : Obj, Below w.heap.size w (((((w.alloc (.cells #[.slice A n.1.length c, .slice B n.2.length d] 24)).alloc (.cells #[.int .i64 i] 3)).alloc (.cells #[.slice none 0 0, .slice none 0 0] 24))).alloc o) := fun o => hb0.alloc (by simp <;> omega) o
    have HRX := Lib.hid (fun o : Obj => HU.out.below (hbx o).drew)
    clear hb0 hbx
    go_enter Try.func10, Try.ntmps10
    go_wp2_with fail
    go_region_with (first | (go_at_call 18; refine (net_row_at true A B n.1.length n.2.length c d _).mono ?_; rintro e w1 ⟨rfl, rfl⟩; simp only [pickV, if_true]) | (go_at_call 17; refine (find_ok A n.1.length c n.1 i s _ (HRX.out _) HI.out (by omega)).mono ?_; rintro e w1 ⟨rfl, rfl⟩))
    all_goals
      obtain ⟨W1, hW1⟩ : ∃ W1, W1 = ((((w.alloc (.cells #[.slice A n.1.length c, .slice B n.2.length d] 24)).alloc (.cells #[.int .i64 i] 3)).alloc (.cells #[.slice none 0 0, .slice none 0 0] 24)).alloc (.cells #[.slice A n.1.length c, .slice B n.2.length d] 24)).drew := ⟨_, rfl⟩
      have hs1 : W1.heap.size = w.heap.size + 4 := by rw [hW1]; simp
      have hb1 : Below w.heap.size w W1 := by rw [hW1]; exact ((((Below.refl _ _).alloc (Nat.le_refl _) _).alloc (by simp <;> omega) _).alloc (by simp <;> omega) _).alloc (by simp <;> omega) _ |>.drew
      have hA : W1.cell? ⟨w.heap.size, 0, none⟩ = some (.slice A n.1.length c) := by rw [hW1]; simp [go_sem]
      have hB : W1.cell? ⟨w.heap.size, 1, none⟩ = some (.slice B n.2.length d) := by rw [hW1]; simp [go_sem]
      have hI : W1.cell? ⟨w.heap.size + 1, 0, none⟩ = some (.int .i64 i) := by rw [hW1]; simp [go_sem]
      have hr0 : W1.cell? ⟨w.heap.size + 2, 0, none⟩ = some (.slice none 0 0) := by rw [hW1]; simp [go_sem]
      have hr1 : W1.cell? ⟨w.heap.size + 2, 1, none⟩ = some (.slice none 0 0) := by rw [hW1]; simp [go_sem]
      have hz0 : W1.frozen? ⟨w.heap.size + 2, 0, none⟩ = false := by rw [hW1]; simp [go_sem]
      have hz1 : W1.frozen? ⟨w.heap.size + 2, 1, none⟩ = false := by rw [hW1]; simp [go_sem]
      have hcv := Lib.run_convert_string_bytes (P := Try.prog) W1 9 49 5 ⟨s.toArray⟩ Try.underlying9 Try.underlying49 Try.underlying5
      have hsz : (⟨s.toArray⟩ : ByteArray).size = s.length := by simp [ByteArray.size]
      rw [hsz] at hcv
      have hb2 := bytes_below W1 5 ⟨s.toArray⟩
      have hs2 := Lib.bytesWorld_size W1 5 ⟨s.toArray⟩
      have HCELL := Lib.hid (bytes_cell W1 5 s)
      have HFREE := Lib.hid (bytes_free W1 5 s)
      try rw [← hW1]
      generalize Lib.bytesWorld W1 5 ⟨s.toArray⟩ = W2 at *
      generalize grownCap W1 s.length 0 5 = cap at *
      obtain ⟨hc2, hf2⟩ := bcell hb2
      have HB2 := Lib.hid (hb1.trans (hb2.mono hb1.size))
      rw [hs1] at hs2 hc2 hf2 hcv HCELL HFREE
      clear hb1 hb2 hW1 hs1 hsz
      go_wp2_with fail
      refine (bfind_no _ s.length cap at' _ (by omega) ha1 ha2 HAT.out).mono ?_
      rintro e w1 ⟨rfl, rfl⟩
      go_wp2_with fail
      refine bodyPost_ret (v := .tuple #[.agg #[.slice A n.1.length c, .slice B n.2.length d], .bool false]) (by simp [results, Try.results10, go_sem, hc2, hr0, hr1, hs2]) rfl (HB.out _ ?_)
      repeat (first | exact HB2.out | (refine Below.drew ?_) | (refine Below.setCell ?_ (by simp <;> omega) _) | (refine Below.alloc ?_ (by simp [hs2] <;> omega) _))
end Go.Proofs.Ytmpiglciplpfhaa
