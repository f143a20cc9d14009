/- copyholdlaw15.shown, short: they answer as the document says; old memory is as it was. -/
import Derived.Test.YtpojhcpkmpbflaaWireTk4
set_option linter.unusedVariables false
set_option linter.unusedSimpArgs false
namespace Go.Proofs.Ytpojhcpkmpbflaa
open Go.RowKit Copyhold

theorem call0_bytes : callB call0 = [0, 0, 0, 0, 0, 0, 0, 0] := by
  simp [callB, numsB, wholeB, foldN, call0, textB, numB_small]
theorem call0_ok (m : Nat) : OkC m call0 := ⟨by simp [call0, I64], by simp [call0], by simp [call0], by simp [call0]⟩

set_option maxRecDepth 100000 in
set_option maxHeartbeats 8000000 in
theorem law_shown (w : World) : Calls Try.prog 10 #[] w fun e w' => e = .returned (.bool true) ∧ Below w.heap.size w w' := by
  have hok : OkM 4096 ⟨2, 3, 0, 0, 0, 0, call0⟩ := ⟨by simp [I64], call0_ok _⟩
  have hokb : OkM 1000000000 ⟨2, 3, 0, 0, 0, 0, call0⟩ := ⟨by simp [I64], call0_ok _⟩
  have HM := Lib.hid (wire_Msg ⟨2, 3, 0, 0, 0, 0, call0⟩ w hokb)
  have hlen : (msgB ⟨2, 3, 0, 0, 0, 0, call0⟩).length ≤ 1000 := by
    rw [msgB, putB_len, msgI, call0_bytes]
    have := numsB_len [2, 3, 0, 0, 0, 0] (by simp [I64])
    simp only [List.length_cons, List.length_append, List.length_nil] at this ⊢
    omega
  have HT := Lib.hid (fun W => wire_TakeMsg (msgB ⟨2, 3, 0, 0, 0, 0, call0⟩) W (by omega))
  rw [takeMsg_back _ hok] at HT
  have HC := Lib.hid (fun W => wire_Call call0 W (call0_ok _))
  rw [call0_bytes] at HC
  generalize msgB ⟨2, 3, 0, 0, 0, 0, call0⟩ = B at *
  unfold msgV msgCells call0 at HM HT
  unfold callV call0 at HC
  simp only at HM HT HC
  clear hok hokb hlen
  go_enter Try.func10, Try.ntmps10
  go_wp2_with fail
  refine HM.out.mono ?_
  rintro e w1 ⟨rfl, hb1⟩
  have HB1 := Lib.hid hb1
  clear hb1
  go_wp2_with fail
  refine (HT.out w1).mono ?_
  rintro e w2 ⟨rfl, hb2⟩
  have HB2 := Lib.hid (below_trans HB1.out hb2 HB1.out.size)
  clear hb2
  obtain ⟨W3, hW3⟩ : ∃ W3, W3 = w2.alloc (.cells #[.int .i64 2, .int .i64 3, .int .i64 0, .int .i64 0, .int .i64 0, .int .i64 0, .int .i64 0, .int .i64 0, .int .i64 0, .int .i64 0, .int .i64 0, .string ⟨#[]⟩, .string ⟨#[]⟩, .string ⟨#[]⟩] 25) := ⟨_, rfl⟩
  have t3 : TBox W3 w2.heap.size 25 #[.int .i64 2, .int .i64 3, .int .i64 0, .int .i64 0, .int .i64 0, .int .i64 0, .int .i64 0, .int .i64 0, .int .i64 0, .int .i64 0, .int .i64 0, .string ⟨#[]⟩, .string ⟨#[]⟩, .string ⟨#[]⟩] := by rw [hW3]; exact TBox.new _ _ _
  have HB3 := Lib.hid (below_trans HB2.out (show Below w2.heap.size w2 W3 from by rw [hW3]; exact (Below.refl _ _).alloc (Nat.le_refl _) _) HB2.out.size)
  have HT3 := Lib.hid t3
  have HW3 := Lib.hid hW3
  clear t3 hW3
  go_wp2_with fail
  rw [← HW3.out]
  refine (HC.out W3).mono ?_
  rintro e w4 ⟨rfl, hb4⟩
  have t4 := HT3.out.below hb4
  have c0 : w4.cell? ⟨w2.heap.size, 0, none⟩ = some (.int .i64 2) := t4.cell 0
  have c1 : w4.cell? ⟨w2.heap.size, 1, none⟩ = some (.int .i64 3) := t4.cell 1
  have HB4 := Lib.hid (below_trans HB3.out hb4 HB3.out.size)
  clear hb4 t4
  go_wp2_with fail
  go_ret
  exact ⟨rfl, HB4.out⟩

/-- are a call's texts short? -/
def shortC (c : CallW) : Bool := decide (c.name.length + c.name2.length + c.text.length ≤ 4000)
set_option maxRecDepth 100000 in
set_option maxHeartbeats 4000000 in
theorem law_short (c : CallW) (w : World) (h1 : c.name.length ≤ 140737488355328) (h2 : c.name2.length ≤ 140737488355328) (h3 : c.text.length ≤ 140737488355328) :
    Calls Try.prog 11 #[callV c] w fun e w' => e = .returned (.bool (shortC c)) ∧ Below w.heap.size w w' := by
  obtain ⟨k1, k2, k3, k4, k5, t1, t2, t3⟩ := c
  simp only at h1 h2 h3
  have hd : shortC ⟨k1, k2, k3, k4, k5, t1, t2, t3⟩ = decide ((t1.length : Int) + (t2.length : Int) + (t3.length : Int) ≤ 4000) := by
    unfold shortC
    rw [decide_eq_decide]
    simp only
    omega
  have HD := Lib.hid hd
  clear hd
  unfold callV
  simp only
  go_enter Try.func11, Try.ntmps11
  go_wp2_with fail
  go_ret
  exact ⟨by rw [HD.out]; rfl, (Below.refl _ _).alloc (Nat.le_refl _) _⟩
theorem short_ok {c : CallW} (h : shortC c = true) (h1 : I64 c.kind ∧ I64 c.ino ∧ I64 c.dest ∧ I64 c.pos ∧ I64 c.many) : OkC 4000 c := by
  have h : c.name.length + c.name2.length + c.text.length ≤ 4000 := of_decide_eq_true h
  exact ⟨h1, by omega, by omega, by omega⟩
theorem OkC.mono {m n : Nat} {c : CallW} (h : OkC m c) (hn : m ≤ n) : OkC n c := ⟨h.1, by have := h.2.1; omega, by have := h.2.2.1; omega, by have := h.2.2.2; omega⟩
theorem i64_of {z : Int} (w : (Lit.int .i64 z).wf = true) : I64 z := by
  simpa [I64, Lit.wf, IntKind.min, IntKind.max, IntKind.signed, IntKind.bits] using w
end Go.Proofs.Ytpojhcpkmpbflaa
