/- wire.TakeMsg: it answers as the document says; old memory is as it was. -/
import Derived.Test.YtpojhcpkmpbflaaWireOpen
set_option linter.unusedVariables false
set_option linter.unusedSimpArgs false
namespace Go.Proofs.Ytpojhcpkmpbflaa
open Go.RowKit Copyhold

theorem takeMsg_err (l : List UInt8) (h : (takeMsg l).2 ≠ 0) : (takeMsg l).1 = msg0 := openL_err h
set_option maxRecDepth 100000 in
set_option maxHeartbeats 16000000 in
theorem wire_TakeMsg (l : List UInt8) (w : World) (hl : l.length ≤ 140737488355328) :
    Calls Try.prog 23 #[.string ⟨l.toArray⟩] w fun e w' => e = .returned (.tuple #[msgV (takeMsg l).1, .int .i64 (takeMsg l).2]) ∧ Below w.heap.size w w' := by
  have HO := Lib.hid (fun M W hm => opened_Msg l M W hm hl)
  have herr := takeMsg_err l
  generalize takeMsg l = q at *
  obtain ⟨x0, er⟩ := q
  simp only at HO herr ⊢
  obtain ⟨W0, hW0⟩ : ∃ W0, W0 = (w.alloc (.cells #[.int .i64 0, .int .i64 0, .int .i64 0, .int .i64 0, .int .i64 0, .int .i64 0, .int .i64 0, .int .i64 0, .int .i64 0, .int .i64 0, .int .i64 0, .string ⟨#[]⟩, .string ⟨#[]⟩, .string ⟨#[]⟩] 25)).alloc (.cells #[.int .i64 0, .int .i64 0, .int .i64 0, .int .i64 0, .int .i64 0, .int .i64 0, .int .i64 0, .int .i64 0, .int .i64 0, .int .i64 0, .int .i64 0, .string ⟨#[]⟩, .string ⟨#[]⟩, .string ⟨#[]⟩] 25) := ⟨_, rfl⟩
  have hb0 : Below w.heap.size w W0 := by rw [hW0]; exact ((Below.refl _ _).alloc (Nat.le_refl _) _).alloc (by simp) _
  have tr0 : TBox W0 w.heap.size 25 #[.int .i64 0, .int .i64 0, .int .i64 0, .int .i64 0, .int .i64 0, .int .i64 0, .int .i64 0, .int .i64 0, .int .i64 0, .int .i64 0, .int .i64 0, .string ⟨#[]⟩, .string ⟨#[]⟩, .string ⟨#[]⟩] := by rw [hW0]; exact (TBox.new _ _ _).below ((Below.refl _ _).alloc (Nat.le_refl _) _)
  have tm0 : TBox W0 (w.heap.size + 1) 25 #[.int .i64 0, .int .i64 0, .int .i64 0, .int .i64 0, .int .i64 0, .int .i64 0, .int .i64 0, .int .i64 0, .int .i64 0, .int .i64 0, .int .i64 0, .string ⟨#[]⟩, .string ⟨#[]⟩, .string ⟨#[]⟩] := by
    rw [hW0]
    have h := TBox.new (w.alloc (.cells #[.int .i64 0, .int .i64 0, .int .i64 0, .int .i64 0, .int .i64 0, .int .i64 0, .int .i64 0, .int .i64 0, .int .i64 0, .int .i64 0, .int .i64 0, .string ⟨#[]⟩, .string ⟨#[]⟩, .string ⟨#[]⟩] 25)) 25 #[.int .i64 0, .int .i64 0, .int .i64 0, .int .i64 0, .int .i64 0, .int .i64 0, .int .i64 0, .int .i64 0, .int .i64 0, .int .i64 0, .int .i64 0, .string ⟨#[]⟩, .string ⟨#[]⟩, .string ⟨#[]⟩]
    rw [show (w.alloc (.cells #[.int .i64 0, .int .i64 0, .int .i64 0, .int .i64 0, .int .i64 0, .int .i64 0, .int .i64 0, .int .i64 0, .int .i64 0, .int .i64 0, .int .i64 0, .string ⟨#[]⟩, .string ⟨#[]⟩, .string ⟨#[]⟩] 25)).heap.size = w.heap.size + 1 from by simp] at h
    exact h
  have HE := Lib.hid herr
  have HX0 := Lib.hid (And.intro hb0 (And.intro tr0 tm0))
  have HW := Lib.hid hW0
  clear herr hW0 hb0 tr0 tm0
  go_enter Try.func23, Try.ntmps23
  go_wp2_with fail
  rw [← HW.out]
  refine (HO.out (w.heap.size + 1) W0 HX0.out.2.2).mono ?_
  rintro e w1 ⟨rfl, ho, x, hx, hxe⟩
  obtain ⟨m1, m2, m3, m4, m5, m6, ⟨k1, k2, k3, k4, k5, t1, t2, t3⟩⟩ := x
  unfold msgCells at hx
  simp only at hx
  have hb1 := ho.2.2 w.heap.size w HX0.out.1 (Nat.le_succ _) HX0.out.1.size
  have tr1 : TBox w1 w.heap.size 25 #[.int .i64 0, .int .i64 0, .int .i64 0, .int .i64 0, .int .i64 0, .int .i64 0, .int .i64 0, .int .i64 0, .int .i64 0, .int .i64 0, .int .i64 0, .string ⟨#[]⟩, .string ⟨#[]⟩, .string ⟨#[]⟩] := by
    have h := HX0.out.2.1
    unfold TBox at h ⊢
    rw [ho.1 w.heap.size (by omega) (Array.getElem?_eq_some_iff.1 h).1]
    exact h
  have HXX := Lib.hid hxe
  have HB1 := Lib.hid hb1
  have HTR := Lib.hid tr1
  have c0 : w1.cell? ⟨w.heap.size + 1, 0, none⟩ = some (.int .i64 m1) := hx.cell 0
  have r0 : w1.cell? ⟨w.heap.size, 0, none⟩ = some (.int .i64 0) := tr1.cell 0
  have g0 := tr1.free 0
  have c1 : w1.cell? ⟨w.heap.size + 1, 1, none⟩ = some (.int .i64 m2) := hx.cell 1
  have r1 : w1.cell? ⟨w.heap.size, 1, none⟩ = some (.int .i64 0) := tr1.cell 1
  have g1 := tr1.free 1
  have c2 : w1.cell? ⟨w.heap.size + 1, 2, none⟩ = some (.int .i64 m3) := hx.cell 2
  have r2 : w1.cell? ⟨w.heap.size, 2, none⟩ = some (.int .i64 0) := tr1.cell 2
  have g2 := tr1.free 2
  have c3 : w1.cell? ⟨w.heap.size + 1, 3, none⟩ = some (.int .i64 m4) := hx.cell 3
  have r3 : w1.cell? ⟨w.heap.size, 3, none⟩ = some (.int .i64 0) := tr1.cell 3
  have g3 := tr1.free 3
  have c4 : w1.cell? ⟨w.heap.size + 1, 4, none⟩ = some (.int .i64 m5) := hx.cell 4
  have r4 : w1.cell? ⟨w.heap.size, 4, none⟩ = some (.int .i64 0) := tr1.cell 4
  have g4 := tr1.free 4
  have c5 : w1.cell? ⟨w.heap.size + 1, 5, none⟩ = some (.int .i64 m6) := hx.cell 5
  have r5 : w1.cell? ⟨w.heap.size, 5, none⟩ = some (.int .i64 0) := tr1.cell 5
  have g5 := tr1.free 5
  have c6 : w1.cell? ⟨w.heap.size + 1, 6, none⟩ = some (.int .i64 k1) := hx.cell 6
  have r6 : w1.cell? ⟨w.heap.size, 6, none⟩ = some (.int .i64 0) := tr1.cell 6
  have g6 := tr1.free 6
  have c7 : w1.cell? ⟨w.heap.size + 1, 7, none⟩ = some (.int .i64 k2) := hx.cell 7
  have r7 : w1.cell? ⟨w.heap.size, 7, none⟩ = some (.int .i64 0) := tr1.cell 7
  have g7 := tr1.free 7
  have c8 : w1.cell? ⟨w.heap.size + 1, 8, none⟩ = some (.int .i64 k3) := hx.cell 8
  have r8 : w1.cell? ⟨w.heap.size, 8, none⟩ = some (.int .i64 0) := tr1.cell 8
  have g8 := tr1.free 8
  have c9 : w1.cell? ⟨w.heap.size + 1, 9, none⟩ = some (.int .i64 k4) := hx.cell 9
  have r9 : w1.cell? ⟨w.heap.size, 9, none⟩ = some (.int .i64 0) := tr1.cell 9
  have g9 := tr1.free 9
  have c10 : w1.cell? ⟨w.heap.size + 1, 10, none⟩ = some (.int .i64 k5) := hx.cell 10
  have r10 : w1.cell? ⟨w.heap.size, 10, none⟩ = some (.int .i64 0) := tr1.cell 10
  have g10 := tr1.free 10
  have c11 : w1.cell? ⟨w.heap.size + 1, 11, none⟩ = some (.string ⟨t1.toArray⟩) := hx.cell 11
  have r11 : w1.cell? ⟨w.heap.size, 11, none⟩ = some (.string ⟨#[]⟩) := tr1.cell 11
  have g11 := tr1.free 11
  have c12 : w1.cell? ⟨w.heap.size + 1, 12, none⟩ = some (.string ⟨t2.toArray⟩) := hx.cell 12
  have r12 : w1.cell? ⟨w.heap.size, 12, none⟩ = some (.string ⟨#[]⟩) := tr1.cell 12
  have g12 := tr1.free 12
  have c13 : w1.cell? ⟨w.heap.size + 1, 13, none⟩ = some (.string ⟨t3.toArray⟩) := hx.cell 13
  have r13 : w1.cell? ⟨w.heap.size, 13, none⟩ = some (.string ⟨#[]⟩) := tr1.cell 13
  have g13 := tr1.free 13
  clear ho hx hxe hb1 tr1
  by_cases he : er = 0
  · subst he
    have hv := HXX.out rfl
    go_wp2_with fail
    obtain ⟨V9, hV⟩ : ∃ V, V = ((((((((((((((w1.setCell ⟨w.heap.size, 0, none⟩ (.int .i64 m1)).setCell ⟨w.heap.size, 1, none⟩ (.int .i64 m2)).setCell ⟨w.heap.size, 2, none⟩ (.int .i64 m3)).setCell ⟨w.heap.size, 3, none⟩ (.int .i64 m4)).setCell ⟨w.heap.size, 4, none⟩ (.int .i64 m5)).setCell ⟨w.heap.size, 5, none⟩ (.int .i64 m6)).setCell ⟨w.heap.size, 6, none⟩ (.int .i64 k1)).setCell ⟨w.heap.size, 7, none⟩ (.int .i64 k2)).setCell ⟨w.heap.size, 8, none⟩ (.int .i64 k3)).setCell ⟨w.heap.size, 9, none⟩ (.int .i64 k4)).setCell ⟨w.heap.size, 10, none⟩ (.int .i64 k5)).setCell ⟨w.heap.size, 11, none⟩ (.string ⟨t1.toArray⟩)).setCell ⟨w.heap.size, 12, none⟩ (.string ⟨t2.toArray⟩)).setCell ⟨w.heap.size, 13, none⟩ (.string ⟨t3.toArray⟩)) := ⟨_, rfl⟩
    rw [← hV]
    replace hV : V9 = set14 w1 w.heap.size (.int .i64 m1) (.int .i64 m2) (.int .i64 m3) (.int .i64 m4) (.int .i64 m5) (.int .i64 m6) (.int .i64 k1) (.int .i64 k2) (.int .i64 k3) (.int .i64 k4) (.int .i64 k5) (.string ⟨t1.toArray⟩) (.string ⟨t2.toArray⟩) (.string ⟨t3.toArray⟩) := hV
    have tz : TBox V9 w.heap.size 25 #[.int .i64 m1, .int .i64 m2, .int .i64 m3, .int .i64 m4, .int .i64 m5, .int .i64 m6, .int .i64 k1, .int .i64 k2, .int .i64 k3, .int .i64 k4, .int .i64 k5, .string ⟨t1.toArray⟩, .string ⟨t2.toArray⟩, .string ⟨t3.toArray⟩] := by rw [hV]; exact set14_box HTR.out (.int .i64 m1) (.int .i64 m2) (.int .i64 m3) (.int .i64 m4) (.int .i64 m5) (.int .i64 m6) (.int .i64 k1) (.int .i64 k2) (.int .i64 k3) (.int .i64 k4) (.int .i64 k5) (.string ⟨t1.toArray⟩) (.string ⟨t2.toArray⟩) (.string ⟨t3.toArray⟩)
    have hz : Below w.heap.size w V9 := by rw [hV]; exact set14_below HB1.out (Nat.le_refl _) (.int .i64 m1) (.int .i64 m2) (.int .i64 m3) (.int .i64 m4) (.int .i64 m5) (.int .i64 m6) (.int .i64 k1) (.int .i64 k2) (.int .i64 k3) (.int .i64 k4) (.int .i64 k5) (.string ⟨t1.toArray⟩) (.string ⟨t2.toArray⟩) (.string ⟨t3.toArray⟩)
    have q0 : V9.cell? ⟨w.heap.size, 0, none⟩ = some (.int .i64 m1) := tz.cell 0
    have q1 : V9.cell? ⟨w.heap.size, 1, none⟩ = some (.int .i64 m2) := tz.cell 1
    have q2 : V9.cell? ⟨w.heap.size, 2, none⟩ = some (.int .i64 m3) := tz.cell 2
    have q3 : V9.cell? ⟨w.heap.size, 3, none⟩ = some (.int .i64 m4) := tz.cell 3
    have q4 : V9.cell? ⟨w.heap.size, 4, none⟩ = some (.int .i64 m5) := tz.cell 4
    have q5 : V9.cell? ⟨w.heap.size, 5, none⟩ = some (.int .i64 m6) := tz.cell 5
    have q6 : V9.cell? ⟨w.heap.size, 6, none⟩ = some (.int .i64 k1) := tz.cell 6
    have q7 : V9.cell? ⟨w.heap.size, 7, none⟩ = some (.int .i64 k2) := tz.cell 7
    have q8 : V9.cell? ⟨w.heap.size, 8, none⟩ = some (.int .i64 k3) := tz.cell 8
    have q9 : V9.cell? ⟨w.heap.size, 9, none⟩ = some (.int .i64 k4) := tz.cell 9
    have q10 : V9.cell? ⟨w.heap.size, 10, none⟩ = some (.int .i64 k5) := tz.cell 10
    have q11 : V9.cell? ⟨w.heap.size, 11, none⟩ = some (.string ⟨t1.toArray⟩) := tz.cell 11
    have q12 : V9.cell? ⟨w.heap.size, 12, none⟩ = some (.string ⟨t2.toArray⟩) := tz.cell 12
    have q13 : V9.cell? ⟨w.heap.size, 13, none⟩ = some (.string ⟨t3.toArray⟩) := tz.cell 13
    clear hV r0 g0 c0 r1 g1 c1 r2 g2 c2 r3 g3 c3 r4 g4 c4 r5 g5 c5 r6 g6 c6 r7 g7 c7 r8 g8 c8 r9 g9 c9 r10 g10 c10 r11 g11 c11 r12 g12 c12 r13 g13 c13
    refine bodyPost_ret (v := .tuple #[.agg #[.int .i64 m1, .int .i64 m2, .int .i64 m3, .int .i64 m4, .int .i64 m5, .int .i64 m6, .int .i64 k1, .int .i64 k2, .int .i64 k3, .int .i64 k4, .int .i64 k5, .string ⟨t1.toArray⟩, .string ⟨t2.toArray⟩, .string ⟨t3.toArray⟩], .int .i64 (0)]) (by simp [results, Try.results23, go_sem, q0, q1, q2, q3, q4, q5, q6, q7, q8, q9, q10, q11, q12, q13]) rfl ⟨by rw [← hv]; rfl, hz⟩
  · have hv := HE.out he
    have hne : (er == 0) = false := by simpa using he
    have hne2 : (er != 0) = true := by simpa using he
    clear he HXX
    go_wp2_with fail
    obtain ⟨V9, hV⟩ : ∃ V, V = ((((((((((((((w1.setCell ⟨w.heap.size, 0, none⟩ (.int .i64 0)).setCell ⟨w.heap.size, 1, none⟩ (.int .i64 0)).setCell ⟨w.heap.size, 2, none⟩ (.int .i64 0)).setCell ⟨w.heap.size, 3, none⟩ (.int .i64 0)).setCell ⟨w.heap.size, 4, none⟩ (.int .i64 0)).setCell ⟨w.heap.size, 5, none⟩ (.int .i64 0)).setCell ⟨w.heap.size, 6, none⟩ (.int .i64 0)).setCell ⟨w.heap.size, 7, none⟩ (.int .i64 0)).setCell ⟨w.heap.size, 8, none⟩ (.int .i64 0)).setCell ⟨w.heap.size, 9, none⟩ (.int .i64 0)).setCell ⟨w.heap.size, 10, none⟩ (.int .i64 0)).setCell ⟨w.heap.size, 11, none⟩ (.string ⟨#[]⟩)).setCell ⟨w.heap.size, 12, none⟩ (.string ⟨#[]⟩)).setCell ⟨w.heap.size, 13, none⟩ (.string ⟨#[]⟩)) := ⟨_, rfl⟩
    rw [← hV]
    replace hV : V9 = set14 w1 w.heap.size (.int .i64 0) (.int .i64 0) (.int .i64 0) (.int .i64 0) (.int .i64 0) (.int .i64 0) (.int .i64 0) (.int .i64 0) (.int .i64 0) (.int .i64 0) (.int .i64 0) (.string ⟨#[]⟩) (.string ⟨#[]⟩) (.string ⟨#[]⟩) := hV
    have tz : TBox V9 w.heap.size 25 #[.int .i64 0, .int .i64 0, .int .i64 0, .int .i64 0, .int .i64 0, .int .i64 0, .int .i64 0, .int .i64 0, .int .i64 0, .int .i64 0, .int .i64 0, .string ⟨#[]⟩, .string ⟨#[]⟩, .string ⟨#[]⟩] := by rw [hV]; exact set14_box HTR.out (.int .i64 0) (.int .i64 0) (.int .i64 0) (.int .i64 0) (.int .i64 0) (.int .i64 0) (.int .i64 0) (.int .i64 0) (.int .i64 0) (.int .i64 0) (.int .i64 0) (.string ⟨#[]⟩) (.string ⟨#[]⟩) (.string ⟨#[]⟩)
    have hz : Below w.heap.size w V9 := by rw [hV]; exact set14_below HB1.out (Nat.le_refl _) (.int .i64 0) (.int .i64 0) (.int .i64 0) (.int .i64 0) (.int .i64 0) (.int .i64 0) (.int .i64 0) (.int .i64 0) (.int .i64 0) (.int .i64 0) (.int .i64 0) (.string ⟨#[]⟩) (.string ⟨#[]⟩) (.string ⟨#[]⟩)
    have q0 : V9.cell? ⟨w.heap.size, 0, none⟩ = some (.int .i64 0) := tz.cell 0
    have q1 : V9.cell? ⟨w.heap.size, 1, none⟩ = some (.int .i64 0) := tz.cell 1
    have q2 : V9.cell? ⟨w.heap.size, 2, none⟩ = some (.int .i64 0) := tz.cell 2
    have q3 : V9.cell? ⟨w.heap.size, 3, none⟩ = some (.int .i64 0) := tz.cell 3
    have q4 : V9.cell? ⟨w.heap.size, 4, none⟩ = some (.int .i64 0) := tz.cell 4
    have q5 : V9.cell? ⟨w.heap.size, 5, none⟩ = some (.int .i64 0) := tz.cell 5
    have q6 : V9.cell? ⟨w.heap.size, 6, none⟩ = some (.int .i64 0) := tz.cell 6
    have q7 : V9.cell? ⟨w.heap.size, 7, none⟩ = some (.int .i64 0) := tz.cell 7
    have q8 : V9.cell? ⟨w.heap.size, 8, none⟩ = some (.int .i64 0) := tz.cell 8
    have q9 : V9.cell? ⟨w.heap.size, 9, none⟩ = some (.int .i64 0) := tz.cell 9
    have q10 : V9.cell? ⟨w.heap.size, 10, none⟩ = some (.int .i64 0) := tz.cell 10
    have q11 : V9.cell? ⟨w.heap.size, 11, none⟩ = some (.string ⟨#[]⟩) := tz.cell 11
    have q12 : V9.cell? ⟨w.heap.size, 12, none⟩ = some (.string ⟨#[]⟩) := tz.cell 12
    have q13 : V9.cell? ⟨w.heap.size, 13, none⟩ = some (.string ⟨#[]⟩) := tz.cell 13
    clear hV r0 g0 c0 r1 g1 c1 r2 g2 c2 r3 g3 c3 r4 g4 c4 r5 g5 c5 r6 g6 c6 r7 g7 c7 r8 g8 c8 r9 g9 c9 r10 g10 c10 r11 g11 c11 r12 g12 c12 r13 g13 c13
    refine bodyPost_ret (v := .tuple #[.agg #[.int .i64 0, .int .i64 0, .int .i64 0, .int .i64 0, .int .i64 0, .int .i64 0, .int .i64 0, .int .i64 0, .int .i64 0, .int .i64 0, .int .i64 0, .string ⟨#[]⟩, .string ⟨#[]⟩, .string ⟨#[]⟩], .int .i64 (er)]) (by simp [results, Try.results23, go_sem, q0, q1, q2, q3, q4, q5, q6, q7, q8, q9, q10, q11, q12, q13]) rfl ⟨by rw [hv]; rfl, hz⟩
end Go.Proofs.Ytpojhcpkmpbflaa
