/- wire.TakeRsp: it answers as the document says; old memory is as it was. -/
import Derived.Test.YtpojhcpkmpbflaaWireOpen2
import Derived.Test.YtpojhcpkmpbflaaSet11
set_option linter.unusedVariables false
set_option linter.unusedSimpArgs false
namespace Go.Proofs.Ytpojhcpkmpbflaa
open Go.RowKit Copyhold

theorem takeRsp_err (l : List UInt8) (h : (takeRsp l).2 ≠ 0) : (takeRsp l).1 = rsp0 := openL_err h
/-- an answer that is handed back, its names in memory of the call's own; and its error -/
def RetRsp (w : World) (q : RspW × Int) (e : Ending) (w' : World) : Prop :=
  ∃ A c, e = .returned (.tuple #[.agg (rspCells q.1 (.slice A q.1.names.length c)), .int .i64 q.2]) ∧ w'.ownsRow w.heap.size 9 1 (.slice A q.1.names.length c) q.1.names.length (q.1.names.map strV) ∧ Below w.heap.size w w'
set_option maxRecDepth 100000 in
set_option maxHeartbeats 16000000 in
theorem wire_TakeRsp (l : List UInt8) (w : World) (hl : l.length ≤ 2147483648) :
    Calls Try.prog 25 #[.string ⟨l.toArray⟩] w (RetRsp w (takeRsp l)) := by
  have HO := Lib.hid (fun M W hm => opened_Rsp l M W hm hl)
  have herr := takeRsp_err l
  generalize takeRsp l = q at *
  obtain ⟨x0, er⟩ := q
  simp only at HO herr ⊢
  obtain ⟨W0, hW0⟩ : ∃ W0, W0 = (w.alloc (.cells #[.int .i64 0, .int .i64 0, .int .i64 0, .int .i64 0, .int .i64 0, .int .i64 0, .int .i64 0, .int .i64 0, .int .i64 0, .string ⟨#[]⟩, .slice none 0 0] 31)).alloc (.cells #[.int .i64 0, .int .i64 0, .int .i64 0, .int .i64 0, .int .i64 0, .int .i64 0, .int .i64 0, .int .i64 0, .int .i64 0, .string ⟨#[]⟩, .slice none 0 0] 31) := ⟨_, rfl⟩
  have hb0 : Below w.heap.size w W0 := by rw [hW0]; exact ((Below.refl _ _).alloc (Nat.le_refl _) _).alloc (by simp) _
  have tr0 : TBox W0 w.heap.size 31 #[.int .i64 0, .int .i64 0, .int .i64 0, .int .i64 0, .int .i64 0, .int .i64 0, .int .i64 0, .int .i64 0, .int .i64 0, .string ⟨#[]⟩, .slice none 0 0] := by rw [hW0]; exact (TBox.new _ _ _).below ((Below.refl _ _).alloc (Nat.le_refl _) _)
  have tm0 : TBox W0 (w.heap.size + 1) 31 #[.int .i64 0, .int .i64 0, .int .i64 0, .int .i64 0, .int .i64 0, .int .i64 0, .int .i64 0, .int .i64 0, .int .i64 0, .string ⟨#[]⟩, .slice none 0 0] := by
    rw [hW0]
    have h := TBox.new (w.alloc (.cells #[.int .i64 0, .int .i64 0, .int .i64 0, .int .i64 0, .int .i64 0, .int .i64 0, .int .i64 0, .int .i64 0, .int .i64 0, .string ⟨#[]⟩, .slice none 0 0] 31)) 31 #[.int .i64 0, .int .i64 0, .int .i64 0, .int .i64 0, .int .i64 0, .int .i64 0, .int .i64 0, .int .i64 0, .int .i64 0, .string ⟨#[]⟩, .slice none 0 0]
    rw [show (w.alloc (.cells #[.int .i64 0, .int .i64 0, .int .i64 0, .int .i64 0, .int .i64 0, .int .i64 0, .int .i64 0, .int .i64 0, .int .i64 0, .string ⟨#[]⟩, .slice none 0 0] 31)).heap.size = w.heap.size + 1 from by simp] at h
    exact h
  have HE := Lib.hid herr
  have HX0 := Lib.hid (And.intro hb0 (And.intro tr0 tm0))
  have HW := Lib.hid hW0
  clear herr hW0 hb0 tr0 tm0
  go_enter Try.func25, Try.ntmps25
  go_wp2_with fail
  rw [← HW.out]
  refine (HO.out (w.heap.size + 1) W0 HX0.out.2.2).mono ?_
  rintro e w1 ⟨rfl, ho, x, A, c, hx, hxe⟩
  obtain ⟨m1, m2, m3, m4, m5, m6, m7, m8, m9, tx, ls⟩ := x
  unfold rspCells at hx
  simp only at hx hxe
  have hb1 := ho.2.2 w.heap.size w HX0.out.1 (Nat.le_succ _) HX0.out.1.size
  have tr1 : TBox w1 w.heap.size 31 #[.int .i64 0, .int .i64 0, .int .i64 0, .int .i64 0, .int .i64 0, .int .i64 0, .int .i64 0, .int .i64 0, .int .i64 0, .string ⟨#[]⟩, .slice none 0 0] := by
    have h := HX0.out.2.1
    unfold TBox at h ⊢
    rw [ho.1 w.heap.size (by omega) (Array.getElem?_eq_some_iff.1 h).1]
    exact h
  have hlt0 : w.heap.size < W0.heap.size := HX0.out.2.1.lt
  have HXX := Lib.hid hxe
  have HB1 := Lib.hid hb1
  have HTR := Lib.hid tr1
  have c0 : w1.cell? ⟨w.heap.size + 1, 0, none⟩ = some (.int .i64 m1) := hx.cell 0
  have r0 : w1.cell? ⟨w.heap.size, 0, none⟩ = some (.int .i64 0) := tr1.cell 0
  have g0 := tr1.free 0
  have c1 : w1.cell? ⟨w.heap.size + 1, 1, none⟩ = some (.int .i64 m2) := hx.cell 1
  have r1 : w1.cell? ⟨w.heap.size, 1, none⟩ = some (.int .i64 0) := tr1.cell 1
  have g1 := tr1.free 1
  have c2 : w1.cell? ⟨w.heap.size + 1, 2, none⟩ = some (.int .i64 m3) := hx.cell 2
  have r2 : w1.cell? ⟨w.heap.size, 2, none⟩ = some (.int .i64 0) := tr1.cell 2
  have g2 := tr1.free 2
  have c3 : w1.cell? ⟨w.heap.size + 1, 3, none⟩ = some (.int .i64 m4) := hx.cell 3
  have r3 : w1.cell? ⟨w.heap.size, 3, none⟩ = some (.int .i64 0) := tr1.cell 3
  have g3 := tr1.free 3
  have c4 : w1.cell? ⟨w.heap.size + 1, 4, none⟩ = some (.int .i64 m5) := hx.cell 4
  have r4 : w1.cell? ⟨w.heap.size, 4, none⟩ = some (.int .i64 0) := tr1.cell 4
  have g4 := tr1.free 4
  have c5 : w1.cell? ⟨w.heap.size + 1, 5, none⟩ = some (.int .i64 m6) := hx.cell 5
  have r5 : w1.cell? ⟨w.heap.size, 5, none⟩ = some (.int .i64 0) := tr1.cell 5
  have g5 := tr1.free 5
  have c6 : w1.cell? ⟨w.heap.size + 1, 6, none⟩ = some (.int .i64 m7) := hx.cell 6
  have r6 : w1.cell? ⟨w.heap.size, 6, none⟩ = some (.int .i64 0) := tr1.cell 6
  have g6 := tr1.free 6
  have c7 : w1.cell? ⟨w.heap.size + 1, 7, none⟩ = some (.int .i64 m8) := hx.cell 7
  have r7 : w1.cell? ⟨w.heap.size, 7, none⟩ = some (.int .i64 0) := tr1.cell 7
  have g7 := tr1.free 7
  have c8 : w1.cell? ⟨w.heap.size + 1, 8, none⟩ = some (.int .i64 m9) := hx.cell 8
  have r8 : w1.cell? ⟨w.heap.size, 8, none⟩ = some (.int .i64 0) := tr1.cell 8
  have g8 := tr1.free 8
  have c9 : w1.cell? ⟨w.heap.size + 1, 9, none⟩ = some (.string ⟨tx.toArray⟩) := hx.cell 9
  have r9 : w1.cell? ⟨w.heap.size, 9, none⟩ = some (.string ⟨#[]⟩) := tr1.cell 9
  have g9 := tr1.free 9
  have c10 : w1.cell? ⟨w.heap.size + 1, 10, none⟩ = some (.slice A ls.length c) := hx.cell 10
  have r10 : w1.cell? ⟨w.heap.size, 10, none⟩ = some (.slice none 0 0) := tr1.cell 10
  have g10 := tr1.free 10
  clear ho hx hxe hb1 tr1
  by_cases he : er = 0
  · subst he
    have hv := (HXX.out rfl).1
    subst hv
    have HOW := Lib.hid (HXX.out rfl).2
    clear HXX
    go_wp2_with fail
    obtain ⟨V9, hV⟩ : ∃ V, V = (((((((((((w1.setCell ⟨w.heap.size, 0, none⟩ (.int .i64 m1)).setCell ⟨w.heap.size, 1, none⟩ (.int .i64 m2)).setCell ⟨w.heap.size, 2, none⟩ (.int .i64 m3)).setCell ⟨w.heap.size, 3, none⟩ (.int .i64 m4)).setCell ⟨w.heap.size, 4, none⟩ (.int .i64 m5)).setCell ⟨w.heap.size, 5, none⟩ (.int .i64 m6)).setCell ⟨w.heap.size, 6, none⟩ (.int .i64 m7)).setCell ⟨w.heap.size, 7, none⟩ (.int .i64 m8)).setCell ⟨w.heap.size, 8, none⟩ (.int .i64 m9)).setCell ⟨w.heap.size, 9, none⟩ (.string ⟨tx.toArray⟩)).setCell ⟨w.heap.size, 10, none⟩ (.slice A ls.length c)) := ⟨_, rfl⟩
    rw [← hV]
    replace hV : V9 = set11 w1 w.heap.size (.int .i64 m1) (.int .i64 m2) (.int .i64 m3) (.int .i64 m4) (.int .i64 m5) (.int .i64 m6) (.int .i64 m7) (.int .i64 m8) (.int .i64 m9) (.string ⟨tx.toArray⟩) (.slice A ls.length c) := hV
    have tz : TBox V9 w.heap.size 31 #[.int .i64 m1, .int .i64 m2, .int .i64 m3, .int .i64 m4, .int .i64 m5, .int .i64 m6, .int .i64 m7, .int .i64 m8, .int .i64 m9, .string ⟨tx.toArray⟩, .slice A ls.length c] := by rw [hV]; exact set11_box HTR.out (.int .i64 m1) (.int .i64 m2) (.int .i64 m3) (.int .i64 m4) (.int .i64 m5) (.int .i64 m6) (.int .i64 m7) (.int .i64 m8) (.int .i64 m9) (.string ⟨tx.toArray⟩) (.slice A ls.length c)
    have hz : Below w.heap.size w V9 := by rw [hV]; exact set11_below HB1.out (Nat.le_refl _) (.int .i64 m1) (.int .i64 m2) (.int .i64 m3) (.int .i64 m4) (.int .i64 m5) (.int .i64 m6) (.int .i64 m7) (.int .i64 m8) (.int .i64 m9) (.string ⟨tx.toArray⟩) (.slice A ls.length c)
    have q0 : V9.cell? ⟨w.heap.size, 0, none⟩ = some (.int .i64 m1) := tz.cell 0
    have q1 : V9.cell? ⟨w.heap.size, 1, none⟩ = some (.int .i64 m2) := tz.cell 1
    have q2 : V9.cell? ⟨w.heap.size, 2, none⟩ = some (.int .i64 m3) := tz.cell 2
    have q3 : V9.cell? ⟨w.heap.size, 3, none⟩ = some (.int .i64 m4) := tz.cell 3
    have q4 : V9.cell? ⟨w.heap.size, 4, none⟩ = some (.int .i64 m5) := tz.cell 4
    have q5 : V9.cell? ⟨w.heap.size, 5, none⟩ = some (.int .i64 m6) := tz.cell 5
    have q6 : V9.cell? ⟨w.heap.size, 6, none⟩ = some (.int .i64 m7) := tz.cell 6
    have q7 : V9.cell? ⟨w.heap.size, 7, none⟩ = some (.int .i64 m8) := tz.cell 7
    have q8 : V9.cell? ⟨w.heap.size, 8, none⟩ = some (.int .i64 m9) := tz.cell 8
    have q9 : V9.cell? ⟨w.heap.size, 9, none⟩ = some (.string ⟨tx.toArray⟩) := tz.cell 9
    have q10 : V9.cell? ⟨w.heap.size, 10, none⟩ = some (.slice A ls.length c) := tz.cell 10
    have ho9 : V9.ownsRow w.heap.size 9 1 (.slice A ls.length c) ls.length (ls.map strV) := by rw [hV]; exact owns_base (set11_owns HOW.out hlt0 (.int .i64 m1) (.int .i64 m2) (.int .i64 m3) (.int .i64 m4) (.int .i64 m5) (.int .i64 m6) (.int .i64 m7) (.int .i64 m8) (.int .i64 m9) (.string ⟨tx.toArray⟩) (.slice A ls.length c)) (Nat.le_of_lt hlt0)
    clear hV r0 g0 c0 r1 g1 c1 r2 g2 c2 r3 g3 c3 r4 g4 c4 r5 g5 c5 r6 g6 c6 r7 g7 c7 r8 g8 c8 r9 g9 c9 r10 g10 c10
    refine bodyPost_ret (v := .tuple #[.agg #[.int .i64 m1, .int .i64 m2, .int .i64 m3, .int .i64 m4, .int .i64 m5, .int .i64 m6, .int .i64 m7, .int .i64 m8, .int .i64 m9, .string ⟨tx.toArray⟩, .slice A ls.length c], .int .i64 (0)]) (by simp [results, Try.results25, go_sem, q0, q1, q2, q3, q4, q5, q6, q7, q8, q9, q10]) rfl ⟨A, c, rfl, ho9, hz⟩
  · have hv := HE.out he
    have hne : (er == 0) = false := by simpa using he
    have hne2 : (er != 0) = true := by simpa using he
    clear he HXX
    go_wp2_with fail
    obtain ⟨V9, hV⟩ : ∃ V, V = (((((((((((w1.setCell ⟨w.heap.size, 0, none⟩ (.int .i64 0)).setCell ⟨w.heap.size, 1, none⟩ (.int .i64 0)).setCell ⟨w.heap.size, 2, none⟩ (.int .i64 0)).setCell ⟨w.heap.size, 3, none⟩ (.int .i64 0)).setCell ⟨w.heap.size, 4, none⟩ (.int .i64 0)).setCell ⟨w.heap.size, 5, none⟩ (.int .i64 0)).setCell ⟨w.heap.size, 6, none⟩ (.int .i64 0)).setCell ⟨w.heap.size, 7, none⟩ (.int .i64 0)).setCell ⟨w.heap.size, 8, none⟩ (.int .i64 0)).setCell ⟨w.heap.size, 9, none⟩ (.string ⟨#[]⟩)).setCell ⟨w.heap.size, 10, none⟩ (.slice none 0 0)) := ⟨_, rfl⟩
    rw [← hV]
    replace hV : V9 = set11 w1 w.heap.size (.int .i64 0) (.int .i64 0) (.int .i64 0) (.int .i64 0) (.int .i64 0) (.int .i64 0) (.int .i64 0) (.int .i64 0) (.int .i64 0) (.string ⟨#[]⟩) (.slice none 0 0) := hV
    have tz : TBox V9 w.heap.size 31 #[.int .i64 0, .int .i64 0, .int .i64 0, .int .i64 0, .int .i64 0, .int .i64 0, .int .i64 0, .int .i64 0, .int .i64 0, .string ⟨#[]⟩, .slice none 0 0] := by rw [hV]; exact set11_box HTR.out (.int .i64 0) (.int .i64 0) (.int .i64 0) (.int .i64 0) (.int .i64 0) (.int .i64 0) (.int .i64 0) (.int .i64 0) (.int .i64 0) (.string ⟨#[]⟩) (.slice none 0 0)
    have hz : Below w.heap.size w V9 := by rw [hV]; exact set11_below HB1.out (Nat.le_refl _) (.int .i64 0) (.int .i64 0) (.int .i64 0) (.int .i64 0) (.int .i64 0) (.int .i64 0) (.int .i64 0) (.int .i64 0) (.int .i64 0) (.string ⟨#[]⟩) (.slice none 0 0)
    have q0 : V9.cell? ⟨w.heap.size, 0, none⟩ = some (.int .i64 0) := tz.cell 0
    have q1 : V9.cell? ⟨w.heap.size, 1, none⟩ = some (.int .i64 0) := tz.cell 1
    have q2 : V9.cell? ⟨w.heap.size, 2, none⟩ = some (.int .i64 0) := tz.cell 2
    have q3 : V9.cell? ⟨w.heap.size, 3, none⟩ = some (.int .i64 0) := tz.cell 3
    have q4 : V9.cell? ⟨w.heap.size, 4, none⟩ = some (.int .i64 0) := tz.cell 4
    have q5 : V9.cell? ⟨w.heap.size, 5, none⟩ = some (.int .i64 0) := tz.cell 5
    have q6 : V9.cell? ⟨w.heap.size, 6, none⟩ = some (.int .i64 0) := tz.cell 6
    have q7 : V9.cell? ⟨w.heap.size, 7, none⟩ = some (.int .i64 0) := tz.cell 7
    have q8 : V9.cell? ⟨w.heap.size, 8, none⟩ = some (.int .i64 0) := tz.cell 8
    have q9 : V9.cell? ⟨w.heap.size, 9, none⟩ = some (.string ⟨#[]⟩) := tz.cell 9
    have q10 : V9.cell? ⟨w.heap.size, 10, none⟩ = some (.slice none 0 0) := tz.cell 10
    clear hV r0 g0 c0 r1 g1 c1 r2 g2 c2 r3 g3 c3 r4 g4 c4 r5 g5 c5 r6 g6 c6 r7 g7 c7 r8 g8 c8 r9 g9 c9 r10 g10 c10
    refine bodyPost_ret (v := .tuple #[.agg #[.int .i64 0, .int .i64 0, .int .i64 0, .int .i64 0, .int .i64 0, .int .i64 0, .int .i64 0, .int .i64 0, .int .i64 0, .string ⟨#[]⟩, .slice none 0 0], .int .i64 (er)]) (by simp [results, Try.results25, go_sem, q0, q1, q2, q3, q4, q5, q6, q7, q8, q9, q10]) rfl ⟨none, 0, by rw [hv]; rfl, by rw [hv]; exact World.ownsRow_nil _ _ _ _, hz⟩
end Go.Proofs.Ytpojhcpkmpbflaa
