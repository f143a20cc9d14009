/- wire.Same: it answers as the document says; old memory is as it was. -/
import Derived.Test.YtpojhcpkmpbflaaWireSame1
import Derived.Test.YtpojhcpkmpbflaaArr9
set_option linter.unusedVariables false
set_option linter.unusedSimpArgs false
namespace Go.Proofs.Ytpojhcpkmpbflaa
open Go.RowKit Copyhold


set_option maxRecDepth 100000 in
set_option maxHeartbeats 16000000 in
theorem wire_Same (x y : RspW) (vx vy : Value) (w : World) (hx : RspV w vx x) (hy : RspV w vy y) (hlx : x.names.length ≤ 2147483648) (hly : y.names.length ≤ 2147483648) :
    Calls Try.prog 19 #[vx, vy] w fun e w' => e = .returned (.bool (sameR x y)) ∧ Below w.heap.size w w' := by
  obtain ⟨A, cp, rfl, hra⟩ := hx
  obtain ⟨B, cq, rfl, hrb⟩ := hy
  obtain ⟨r1, r2, r3, r4, r5, r6, r7, r8, r9, tx, ls⟩ := x
  obtain ⟨q1, q2, q3, q4, q5, q6, q7, q8, q9, ux, ks⟩ := y
  simp only at hra hrb hlx hly
  have hSR : sameR ⟨r1, r2, r3, r4, r5, r6, r7, r8, r9, tx, ls⟩ ⟨q1, q2, q3, q4, q5, q6, q7, q8, q9, ux, ks⟩ = ((r1 == q1 && (r2 == q2 && (r3 == q3 && (r4 == q4 && (r5 == q5 && (r6 == q6 && (r7 == q7 && (r8 == q8 && (r9 == q9))))))))) && ((tx == ux) && sameTexts ls ks)) := by
    unfold sameR sameP
    rw [Bool.eq_iff_iff]
    simp only [Bool.and_eq_true]
    constructor
    · rintro ⟨⟨a, b, c, d, e, f⟩, g, h, i, j, k⟩; exact ⟨⟨g, h, i, j, k, b, c, d, e⟩, f, a⟩
    · rintro ⟨⟨g, h, i, j, k, b, c, d, e⟩, f, a⟩; exact ⟨⟨a, b, c, d, e, f⟩, g, h, i, j, k⟩
  have HSR := Lib.hid hSR
  have HEQ := Lib.hid (fun W => eql_arr9 r1 r2 r3 r4 r5 r6 r7 r8 r9 q1 q2 q3 q4 q5 q6 q7 q8 q9 W)
  generalize (r1 == q1 && (r2 == q2 && (r3 == q3 && (r4 == q4 && (r5 == q5 && (r6 == q6 && (r7 == q7 && (r8 == q8 && (r9 == q9))))))))) = b9 at *
  unfold rspCells
  simp only
  clear hSR
  obtain ⟨wu1, hu1⟩ : ∃ u, u = w.alloc (.cells #[.int .i64 r1, .int .i64 r2, .int .i64 r3, .int .i64 r4, .int .i64 r5, .int .i64 r6, .int .i64 r7, .int .i64 r8, .int .i64 r9, .string ⟨tx.toArray⟩, .slice A ls.length cp] 31) := ⟨_, rfl⟩
  have su1 : wu1.heap.size = w.heap.size + 1 := by rw [hu1]; simp
  have tu1 : TBox wu1 (w.heap.size) 31 #[.int .i64 r1, .int .i64 r2, .int .i64 r3, .int .i64 r4, .int .i64 r5, .int .i64 r6, .int .i64 r7, .int .i64 r8, .int .i64 r9, .string ⟨tx.toArray⟩, .slice A ls.length cp] := by rw [hu1]; exact TBox.new _ _ _
  have bu1 : Below w.heap.size w wu1 := by rw [hu1]; exact (Below.refl _ _).alloc (Nat.le_refl _) _
  have BU1 := bu1
  obtain ⟨wu2, hu2⟩ : ∃ u, u = wu1.alloc (.cells #[.int .i64 q1, .int .i64 q2, .int .i64 q3, .int .i64 q4, .int .i64 q5, .int .i64 q6, .int .i64 q7, .int .i64 q8, .int .i64 q9, .string ⟨ux.toArray⟩, .slice B ks.length cq] 31) := ⟨_, rfl⟩
  have su2 : wu2.heap.size = w.heap.size + 2 := by rw [hu2]; simp [su1]
  have tu2 : TBox wu2 (w.heap.size + 1) 31 #[.int .i64 q1, .int .i64 q2, .int .i64 q3, .int .i64 q4, .int .i64 q5, .int .i64 q6, .int .i64 q7, .int .i64 q8, .int .i64 q9, .string ⟨ux.toArray⟩, .slice B ks.length cq] := by rw [hu2, ← su1]; exact TBox.new _ _ _
  have bu2 : Below wu1.heap.size wu1 wu2 := by rw [hu2]; exact (Below.refl _ _).alloc (Nat.le_refl _) _
  have BU2 := below_trans BU1 bu2 BU1.size
  have Ha0 := Lib.hid (tu1.below bu2)
  have Hb0 := Lib.hid tu2
  have BW_0 := Lib.hid BU2
  have HW : Hid (wu2 = ((w.alloc (.cells #[.int .i64 r1, .int .i64 r2, .int .i64 r3, .int .i64 r4, .int .i64 r5, .int .i64 r6, .int .i64 r7, .int .i64 r8, .int .i64 r9, .string ⟨tx.toArray⟩, .slice A ls.length cp] 31)).alloc (.cells #[.int .i64 q1, .int .i64 q2, .int .i64 q3, .int .i64 q4, .int .i64 q5, .int .i64 q6, .int .i64 q7, .int .i64 q8, .int .i64 q9, .string ⟨ux.toArray⟩, .slice B ks.length cq] 31))) := Lib.hid (by rw [hu2, hu1])
  have HSZ := Lib.hid su2
  obtain ⟨W0, hW0⟩ : ∃ u, u = wu2 := ⟨_, rfl⟩
  rw [← hW0] at Ha0 Hb0 BW_0 HW HSZ
  clear hW0 hu1 su1 tu1 bu1 BU1 hu2 su2 tu2 bu2 BU2
  have HE := Lib.hid (fun W (h : Below w.heap.size w W) => equal_row _ _ ls ks W (hra.below h) (hrb.below h) hlx hly)
  clear hra hrb
  go_enter Try.func19, Try.ntmps19
  go_wp2_with fail
  rw [← HW.out]
  cases b9 with
  | false =>
    refine wp_region_held_drew (S := fun V => Below W0.heap.size W0 V) (by kernel_rfl) (below_dn (Below.refl _ _) 1) (fun hHeld => ?_)
    refine wpAnyH_take (i := 0) (v := ?_) rfl (by kernel_rfl) (by kernel_rfl) (by kernel_rfl) (fun _ _ _ h => h) (Or.inl ⟨by rfl, ?_⟩) (by assumption) ?_
    rotate_left
    · intro X hSw
      go_simp
      try with_reducible rfl
    rotate_left
    try simp only [Act.put, List.setIfInBounds_toArray, List.set_cons_zero, List.set_cons_succ, List.getElem_toArray, List.getElem_cons_zero, List.getElem_cons_succ]
    refine wpAnyH_take (i := 1) (v := ?_) rfl (by kernel_rfl) (by kernel_rfl) (by kernel_rfl) (fun _ _ _ h => h) (Or.inl ⟨by rfl, ?_⟩) (by assumption) ?_
    rotate_left
    · intro X hSw
      have hc0 : X.cell? ⟨w.heap.size, 0, none⟩ = some (.int .i64 r1) := (Ha0.out.below hSw).cell 0
      have hc1 : X.cell? ⟨w.heap.size, 1, none⟩ = some (.int .i64 r2) := (Ha0.out.below hSw).cell 1
      have hc2 : X.cell? ⟨w.heap.size, 2, none⟩ = some (.int .i64 r3) := (Ha0.out.below hSw).cell 2
      have hc3 : X.cell? ⟨w.heap.size, 3, none⟩ = some (.int .i64 r4) := (Ha0.out.below hSw).cell 3
      have hc4 : X.cell? ⟨w.heap.size, 4, none⟩ = some (.int .i64 r5) := (Ha0.out.below hSw).cell 4
      have hc5 : X.cell? ⟨w.heap.size, 5, none⟩ = some (.int .i64 r6) := (Ha0.out.below hSw).cell 5
      have hc6 : X.cell? ⟨w.heap.size, 6, none⟩ = some (.int .i64 r7) := (Ha0.out.below hSw).cell 6
      have hc7 : X.cell? ⟨w.heap.size, 7, none⟩ = some (.int .i64 r8) := (Ha0.out.below hSw).cell 7
      have hc8 : X.cell? ⟨w.heap.size, 8, none⟩ = some (.int .i64 r9) := (Ha0.out.below hSw).cell 8
      have hc9 : X.cell? ⟨w.heap.size, 9, none⟩ = some (.string ⟨tx.toArray⟩) := (Ha0.out.below hSw).cell 9
      have hc10 : X.cell? ⟨w.heap.size, 10, none⟩ = some (.slice A ls.length cp) := (Ha0.out.below hSw).cell 10
      go_simp
      try with_reducible rfl
    rotate_left
    try simp only [Act.put, List.setIfInBounds_toArray, List.set_cons_zero, List.set_cons_succ, List.getElem_toArray, List.getElem_cons_zero, List.getElem_cons_succ]
    refine wpAnyH_take (i := 3) (v := ?_) rfl (by kernel_rfl) (by kernel_rfl) (by kernel_rfl) (fun _ _ _ h => h) (Or.inl ⟨by rfl, ?_⟩) (by assumption) ?_
    rotate_left
    · intro X hSw
      go_simp
      try with_reducible rfl
    rotate_left
    try simp only [Act.put, List.setIfInBounds_toArray, List.set_cons_zero, List.set_cons_succ, List.getElem_toArray, List.getElem_cons_zero, List.getElem_cons_succ]
    refine wpAnyH_take (i := 4) (v := ?_) rfl (by kernel_rfl) (by kernel_rfl) (by kernel_rfl) (fun _ _ _ h => h) (Or.inl ⟨by rfl, ?_⟩) (by assumption) ?_
    rotate_left
    · intro X hSw
      have hc0 : X.cell? ⟨(w.heap.size + 1), 0, none⟩ = some (.int .i64 q1) := (Hb0.out.below hSw).cell 0
      have hc1 : X.cell? ⟨(w.heap.size + 1), 1, none⟩ = some (.int .i64 q2) := (Hb0.out.below hSw).cell 1
      have hc2 : X.cell? ⟨(w.heap.size + 1), 2, none⟩ = some (.int .i64 q3) := (Hb0.out.below hSw).cell 2
      have hc3 : X.cell? ⟨(w.heap.size + 1), 3, none⟩ = some (.int .i64 q4) := (Hb0.out.below hSw).cell 3
      have hc4 : X.cell? ⟨(w.heap.size + 1), 4, none⟩ = some (.int .i64 q5) := (Hb0.out.below hSw).cell 4
      have hc5 : X.cell? ⟨(w.heap.size + 1), 5, none⟩ = some (.int .i64 q6) := (Hb0.out.below hSw).cell 5
      have hc6 : X.cell? ⟨(w.heap.size + 1), 6, none⟩ = some (.int .i64 q7) := (Hb0.out.below hSw).cell 6
      have hc7 : X.cell? ⟨(w.heap.size + 1), 7, none⟩ = some (.int .i64 q8) := (Hb0.out.below hSw).cell 7
      have hc8 : X.cell? ⟨(w.heap.size + 1), 8, none⟩ = some (.int .i64 q9) := (Hb0.out.below hSw).cell 8
      have hc9 : X.cell? ⟨(w.heap.size + 1), 9, none⟩ = some (.string ⟨ux.toArray⟩) := (Hb0.out.below hSw).cell 9
      have hc10 : X.cell? ⟨(w.heap.size + 1), 10, none⟩ = some (.slice B ks.length cq) := (Hb0.out.below hSw).cell 10
      go_simp
      try with_reducible rfl
    rotate_left
    try simp only [Act.put, List.setIfInBounds_toArray, List.set_cons_zero, List.set_cons_succ, List.getElem_toArray, List.getElem_cons_zero, List.getElem_cons_succ]
    refine wpAnyH_ready (rs := [2]) (by kernel_rfl) (by simp) ?_
    refine (AllReadyH.cons rfl (fun K hK => ?_) AllReadyH.nil)
    rw [if_pos (by rfl)]
    go_wp2_with fail
    refine (wire_head r1 r2 r3 r4 r5 r6 r7 r8 r9 tx _ A ls.length cp rfl _).mono ?_
    rintro e wq ⟨rfl, hb⟩
    replace hHeld := below_trans hHeld hb (Below.size hHeld)
    clear hb
    refine hK.out _ _ hHeld (fun _ => ?_)
    clear hK K
    try simp only [Act.put, List.setIfInBounds_toArray, List.set_cons_zero, List.set_cons_succ, List.getElem_toArray, List.getElem_cons_zero, List.getElem_cons_succ]
    refine wpAnyH_ready (rs := [5]) (by kernel_rfl) (by simp) ?_
    refine (AllReadyH.cons rfl (fun K hK => ?_) AllReadyH.nil)
    rw [if_pos (by rfl)]
    go_wp2_with fail
    refine (wire_head q1 q2 q3 q4 q5 q6 q7 q8 q9 ux _ B ks.length cq rfl _).mono ?_
    rintro e wq ⟨rfl, hb⟩
    replace hHeld := below_trans hHeld hb (Below.size hHeld)
    clear hb
    refine hK.out _ _ hHeld (fun _ => ?_)
    clear hK K
    try simp only [Act.put, List.setIfInBounds_toArray, List.set_cons_zero, List.set_cons_succ, List.getElem_toArray, List.getElem_cons_zero, List.getElem_cons_succ]
    refine wpAnyH_take (i := 6) (v := .bool false) rfl (by kernel_rfl) (by kernel_rfl) (by kernel_rfl) (fun _ _ _ h => h) (Or.inl ⟨by rfl, ?_⟩) (by assumption) ?_
    · intro X hSw
      apply exec_eql (t := 66) (ty := 66) (x := .tmp 8) (y := .tmp 11) (hr := HEQ.out X)
      · rfl
      · rfl
      · rfl
      · kernel_rfl
    try simp only [Act.put, List.setIfInBounds_toArray, List.set_cons_zero, List.set_cons_succ, List.getElem_toArray, List.getElem_cons_zero, List.getElem_cons_succ]
    refine wpAnyH_take (i := 7) (v := ?_) rfl (by kernel_rfl) (by kernel_rfl) (by kernel_rfl) (fun _ _ _ h => h) (Or.inl ⟨by rfl, ?_⟩) (by assumption) ?_
    rotate_left
    · intro X hSw
      go_simp
      try with_reducible rfl
    rotate_left
    try simp only [Act.put, List.setIfInBounds_toArray, List.set_cons_zero, List.set_cons_succ, List.getElem_toArray, List.getElem_cons_zero, List.getElem_cons_succ]
    refine wpAnyH_take (i := 8) (v := undef) rfl (by kernel_rfl) (by kernel_rfl) (by kernel_rfl) (fun _ _ _ h => h) (Or.inr ⟨by rfl, rfl⟩) (by assumption) ?_
    try simp only [Act.put, List.setIfInBounds_toArray, List.set_cons_zero, List.set_cons_succ, List.getElem_toArray, List.getElem_cons_zero, List.getElem_cons_succ]
    refine wpAnyH_take (i := 9) (v := undef) rfl (by kernel_rfl) (by kernel_rfl) (by kernel_rfl) (fun _ _ _ h => h) (Or.inr ⟨by rfl, rfl⟩) (by assumption) ?_
    try simp only [Act.put, List.setIfInBounds_toArray, List.set_cons_zero, List.set_cons_succ, List.getElem_toArray, List.getElem_cons_zero, List.getElem_cons_succ]
    refine wpAnyH_take (i := 10) (v := undef) rfl (by kernel_rfl) (by kernel_rfl) (by kernel_rfl) (fun _ _ _ h => h) (Or.inr ⟨by rfl, rfl⟩) (by assumption) ?_
    try simp only [Act.put, List.setIfInBounds_toArray, List.set_cons_zero, List.set_cons_succ, List.getElem_toArray, List.getElem_cons_zero, List.getElem_cons_succ]
    refine wpAnyH_take (i := 11) (v := undef) rfl (by kernel_rfl) (by kernel_rfl) (by kernel_rfl) (fun _ _ _ h => h) (Or.inr ⟨by rfl, rfl⟩) (by assumption) ?_
    try simp only [Act.put, List.setIfInBounds_toArray, List.set_cons_zero, List.set_cons_succ, List.getElem_toArray, List.getElem_cons_zero, List.getElem_cons_succ]
    refine wpAnyH_take (i := 12) (v := undef) rfl (by kernel_rfl) (by kernel_rfl) (by kernel_rfl) (fun _ _ _ h => h) (Or.inr ⟨by rfl, rfl⟩) (by assumption) ?_
    try simp only [Act.put, List.setIfInBounds_toArray, List.set_cons_zero, List.set_cons_succ, List.getElem_toArray, List.getElem_cons_zero, List.getElem_cons_succ]
    refine wpAnyH_take (i := 13) (v := undef) rfl (by kernel_rfl) (by kernel_rfl) (by kernel_rfl) (fun _ _ _ h => h) (Or.inr ⟨by rfl, rfl⟩) (by assumption) ?_
    try simp only [Act.put, List.setIfInBounds_toArray, List.set_cons_zero, List.set_cons_succ, List.getElem_toArray, List.getElem_cons_zero, List.getElem_cons_succ]
    refine wpAnyH_take (i := 14) (v := undef) rfl (by kernel_rfl) (by kernel_rfl) (by kernel_rfl) (fun _ _ _ h => h) (Or.inr ⟨by rfl, rfl⟩) (by assumption) ?_
    try simp only [Act.put, List.setIfInBounds_toArray, List.set_cons_zero, List.set_cons_succ, List.getElem_toArray, List.getElem_cons_zero, List.getElem_cons_succ]
    refine wpAnyH_take (i := 15) (v := ?_) rfl (by kernel_rfl) (by kernel_rfl) (by kernel_rfl) (fun _ _ _ h => h) (Or.inl ⟨by rfl, ?_⟩) (by assumption) ?_
    rotate_left
    · intro X hSw
      go_simp
      try with_reducible rfl
    rotate_left
    try simp only [Act.put, List.setIfInBounds_toArray, List.set_cons_zero, List.set_cons_succ, List.getElem_toArray, List.getElem_cons_zero, List.getElem_cons_succ]
    refine wpAnyH_take (i := 16) (v := ?_) rfl (by kernel_rfl) (by kernel_rfl) (by kernel_rfl) (fun _ _ _ h => h) (Or.inl ⟨by rfl, ?_⟩) (by assumption) ?_
    rotate_left
    · intro X hSw
      go_simp
      try with_reducible rfl
    rotate_left
    try simp only [Act.put, List.setIfInBounds_toArray, List.set_cons_zero, List.set_cons_succ, List.getElem_toArray, List.getElem_cons_zero, List.getElem_cons_succ]
    refine wpAnyH_take (i := 17) (v := undef) rfl (by kernel_rfl) (by kernel_rfl) (by kernel_rfl) (fun _ _ _ h => h) (Or.inr ⟨by rfl, rfl⟩) (by assumption) ?_
    try simp only [Act.put, List.setIfInBounds_toArray, List.set_cons_zero, List.set_cons_succ, List.getElem_toArray, List.getElem_cons_zero, List.getElem_cons_succ]
    refine wpAnyH_take (i := 18) (v := undef) rfl (by kernel_rfl) (by kernel_rfl) (by kernel_rfl) (fun _ _ _ h => h) (Or.inr ⟨by rfl, rfl⟩) (by assumption) ?_
    try simp only [Act.put, List.setIfInBounds_toArray, List.set_cons_zero, List.set_cons_succ, List.getElem_toArray, List.getElem_cons_zero, List.getElem_cons_succ]
    refine wpAnyH_take (i := 19) (v := undef) rfl (by kernel_rfl) (by kernel_rfl) (by kernel_rfl) (fun _ _ _ h => h) (Or.inr ⟨by rfl, rfl⟩) (by assumption) ?_
    try simp only [Act.put, List.setIfInBounds_toArray, List.set_cons_zero, List.set_cons_succ, List.getElem_toArray, List.getElem_cons_zero, List.getElem_cons_succ]
    refine wpAnyH_take (i := 20) (v := undef) rfl (by kernel_rfl) (by kernel_rfl) (by kernel_rfl) (fun _ _ _ h => h) (Or.inr ⟨by rfl, rfl⟩) (by assumption) ?_
    try simp only [Act.put, List.setIfInBounds_toArray, List.set_cons_zero, List.set_cons_succ, List.getElem_toArray, List.getElem_cons_zero, List.getElem_cons_succ]
    refine wpAnyH_take (i := 21) (v := undef) rfl (by kernel_rfl) (by kernel_rfl) (by kernel_rfl) (fun _ _ _ h => h) (Or.inr ⟨by rfl, rfl⟩) (by assumption) ?_
    try simp only [Act.put, List.setIfInBounds_toArray, List.set_cons_zero, List.set_cons_succ, List.getElem_toArray, List.getElem_cons_zero, List.getElem_cons_succ]
    refine wpAnyH_take (i := 22) (v := undef) rfl (by kernel_rfl) (by kernel_rfl) (by kernel_rfl) (fun _ _ _ h => h) (Or.inr ⟨by rfl, rfl⟩) (by assumption) ?_
    try simp only [Act.put, List.setIfInBounds_toArray, List.set_cons_zero, List.set_cons_succ, List.getElem_toArray, List.getElem_cons_zero, List.getElem_cons_succ]
    refine wpAnyH_ready (rs := [23]) (by kernel_rfl) (by simp) ?_
    refine (AllReadyH.cons rfl (fun K hK => ?_) AllReadyH.nil)
    rw [if_neg (by intro h; exact absurd (show false = true from h) (by decide))]
    refine hK.out _ _ hHeld (fun _ => ?_)
    clear hK K
    try simp only [Act.put, List.setIfInBounds_toArray, List.set_cons_zero, List.set_cons_succ, List.getElem_toArray, List.getElem_cons_zero, List.getElem_cons_succ]
    refine wpAnyH_take (i := 24) (v := ?_) rfl (by kernel_rfl) (by kernel_rfl) (by kernel_rfl) (fun _ _ _ h => h) (Or.inl ⟨by rfl, ?_⟩) (by assumption) ?_
    rotate_left
    · intro X hSw
      go_simp
      try with_reducible rfl
    rotate_left
    try simp only [Act.put, List.setIfInBounds_toArray, List.set_cons_zero, List.set_cons_succ, List.getElem_toArray, List.getElem_cons_zero, List.getElem_cons_succ]
    refine wpAnyH_take (i := 25) (v := ?_) rfl (by kernel_rfl) (by kernel_rfl) (by kernel_rfl) (fun _ _ _ h => h) (Or.inl ⟨by rfl, ?_⟩) (by assumption) ?_
    rotate_left
    · intro X hSw
      go_simp
      try with_reducible rfl
    rotate_left
    try simp only [Act.put, List.setIfInBounds_toArray, List.set_cons_zero, List.set_cons_succ, List.getElem_toArray, List.getElem_cons_zero, List.getElem_cons_succ]
    refine wpAnyH_done (by kernel_rfl) ?_ _
    go_wp2_with fail
    go_ret
    exact ⟨by rw [HSR.out]; rfl, below_trans BW_0.out hHeld BW_0.out.size⟩
  | true =>
    by_cases htx : tx = ux
    · subst htx
      refine wp_region_held_drew (S := fun V => Below W0.heap.size W0 V) (by kernel_rfl) (below_dn (Below.refl _ _) 1) (fun hHeld => ?_)
      refine wpAnyH_take (i := 0) (v := ?_) rfl (by kernel_rfl) (by kernel_rfl) (by kernel_rfl) (fun _ _ _ h => h) (Or.inl ⟨by rfl, ?_⟩) (by assumption) ?_
      rotate_left
      · intro X hSw
        go_simp
        try with_reducible rfl
      rotate_left
      try simp only [Act.put, List.setIfInBounds_toArray, List.set_cons_zero, List.set_cons_succ, List.getElem_toArray, List.getElem_cons_zero, List.getElem_cons_succ]
      refine wpAnyH_take (i := 1) (v := ?_) rfl (by kernel_rfl) (by kernel_rfl) (by kernel_rfl) (fun _ _ _ h => h) (Or.inl ⟨by rfl, ?_⟩) (by assumption) ?_
      rotate_left
      · intro X hSw
        have hc0 : X.cell? ⟨w.heap.size, 0, none⟩ = some (.int .i64 r1) := (Ha0.out.below hSw).cell 0
        have hc1 : X.cell? ⟨w.heap.size, 1, none⟩ = some (.int .i64 r2) := (Ha0.out.below hSw).cell 1
        have hc2 : X.cell? ⟨w.heap.size, 2, none⟩ = some (.int .i64 r3) := (Ha0.out.below hSw).cell 2
        have hc3 : X.cell? ⟨w.heap.size, 3, none⟩ = some (.int .i64 r4) := (Ha0.out.below hSw).cell 3
        have hc4 : X.cell? ⟨w.heap.size, 4, none⟩ = some (.int .i64 r5) := (Ha0.out.below hSw).cell 4
        have hc5 : X.cell? ⟨w.heap.size, 5, none⟩ = some (.int .i64 r6) := (Ha0.out.below hSw).cell 5
        have hc6 : X.cell? ⟨w.heap.size, 6, none⟩ = some (.int .i64 r7) := (Ha0.out.below hSw).cell 6
        have hc7 : X.cell? ⟨w.heap.size, 7, none⟩ = some (.int .i64 r8) := (Ha0.out.below hSw).cell 7
        have hc8 : X.cell? ⟨w.heap.size, 8, none⟩ = some (.int .i64 r9) := (Ha0.out.below hSw).cell 8
        have hc9 : X.cell? ⟨w.heap.size, 9, none⟩ = some (.string ⟨tx.toArray⟩) := (Ha0.out.below hSw).cell 9
        have hc10 : X.cell? ⟨w.heap.size, 10, none⟩ = some (.slice A ls.length cp) := (Ha0.out.below hSw).cell 10
        go_simp
        try with_reducible rfl
      rotate_left
      try simp only [Act.put, List.setIfInBounds_toArray, List.set_cons_zero, List.set_cons_succ, List.getElem_toArray, List.getElem_cons_zero, List.getElem_cons_succ]
      refine wpAnyH_take (i := 3) (v := ?_) rfl (by kernel_rfl) (by kernel_rfl) (by kernel_rfl) (fun _ _ _ h => h) (Or.inl ⟨by rfl, ?_⟩) (by assumption) ?_
      rotate_left
      · intro X hSw
        go_simp
        try with_reducible rfl
      rotate_left
      try simp only [Act.put, List.setIfInBounds_toArray, List.set_cons_zero, List.set_cons_succ, List.getElem_toArray, List.getElem_cons_zero, List.getElem_cons_succ]
      refine wpAnyH_take (i := 4) (v := ?_) rfl (by kernel_rfl) (by kernel_rfl) (by kernel_rfl) (fun _ _ _ h => h) (Or.inl ⟨by rfl, ?_⟩) (by assumption) ?_
      rotate_left
      · intro X hSw
        have hc0 : X.cell? ⟨(w.heap.size + 1), 0, none⟩ = some (.int .i64 q1) := (Hb0.out.below hSw).cell 0
        have hc1 : X.cell? ⟨(w.heap.size + 1), 1, none⟩ = some (.int .i64 q2) := (Hb0.out.below hSw).cell 1
        have hc2 : X.cell? ⟨(w.heap.size + 1), 2, none⟩ = some (.int .i64 q3) := (Hb0.out.below hSw).cell 2
        have hc3 : X.cell? ⟨(w.heap.size + 1), 3, none⟩ = some (.int .i64 q4) := (Hb0.out.below hSw).cell 3
        have hc4 : X.cell? ⟨(w.heap.size + 1), 4, none⟩ = some (.int .i64 q5) := (Hb0.out.below hSw).cell 4
        have hc5 : X.cell? ⟨(w.heap.size + 1), 5, none⟩ = some (.int .i64 q6) := (Hb0.out.below hSw).cell 5
        have hc6 : X.cell? ⟨(w.heap.size + 1), 6, none⟩ = some (.int .i64 q7) := (Hb0.out.below hSw).cell 6
        have hc7 : X.cell? ⟨(w.heap.size + 1), 7, none⟩ = some (.int .i64 q8) := (Hb0.out.below hSw).cell 7
        have hc8 : X.cell? ⟨(w.heap.size + 1), 8, none⟩ = some (.int .i64 q9) := (Hb0.out.below hSw).cell 8
        have hc9 : X.cell? ⟨(w.heap.size + 1), 9, none⟩ = some (.string ⟨tx.toArray⟩) := (Hb0.out.below hSw).cell 9
        have hc10 : X.cell? ⟨(w.heap.size + 1), 10, none⟩ = some (.slice B ks.length cq) := (Hb0.out.below hSw).cell 10
        go_simp
        try with_reducible rfl
      rotate_left
      try simp only [Act.put, List.setIfInBounds_toArray, List.set_cons_zero, List.set_cons_succ, List.getElem_toArray, List.getElem_cons_zero, List.getElem_cons_succ]
      refine wpAnyH_ready (rs := [2]) (by kernel_rfl) (by simp) ?_
      refine (AllReadyH.cons rfl (fun K hK => ?_) AllReadyH.nil)
      rw [if_pos (by rfl)]
      go_wp2_with fail
      refine (wire_head r1 r2 r3 r4 r5 r6 r7 r8 r9 tx _ A ls.length cp rfl _).mono ?_
      rintro e wq ⟨rfl, hb⟩
      replace hHeld := below_trans hHeld hb (Below.size hHeld)
      clear hb
      refine hK.out _ _ hHeld (fun _ => ?_)
      clear hK K
      try simp only [Act.put, List.setIfInBounds_toArray, List.set_cons_zero, List.set_cons_succ, List.getElem_toArray, List.getElem_cons_zero, List.getElem_cons_succ]
      refine wpAnyH_ready (rs := [5]) (by kernel_rfl) (by simp) ?_
      refine (AllReadyH.cons rfl (fun K hK => ?_) AllReadyH.nil)
      rw [if_pos (by rfl)]
      go_wp2_with fail
      refine (wire_head q1 q2 q3 q4 q5 q6 q7 q8 q9 tx _ B ks.length cq rfl _).mono ?_
      rintro e wq ⟨rfl, hb⟩
      replace hHeld := below_trans hHeld hb (Below.size hHeld)
      clear hb
      refine hK.out _ _ hHeld (fun _ => ?_)
      clear hK K
      try simp only [Act.put, List.setIfInBounds_toArray, List.set_cons_zero, List.set_cons_succ, List.getElem_toArray, List.getElem_cons_zero, List.getElem_cons_succ]
      refine wpAnyH_take (i := 6) (v := .bool true) rfl (by kernel_rfl) (by kernel_rfl) (by kernel_rfl) (fun _ _ _ h => h) (Or.inl ⟨by rfl, ?_⟩) (by assumption) ?_
      · intro X hSw
        apply exec_eql (t := 66) (ty := 66) (x := .tmp 8) (y := .tmp 11) (hr := HEQ.out X)
        · rfl
        · rfl
        · rfl
        · kernel_rfl
      try simp only [Act.put, List.setIfInBounds_toArray, List.set_cons_zero, List.set_cons_succ, List.getElem_toArray, List.getElem_cons_zero, List.getElem_cons_succ]
      refine wpAnyH_take (i := 7) (v := ?_) rfl (by kernel_rfl) (by kernel_rfl) (by kernel_rfl) (fun _ _ _ h => h) (Or.inl ⟨by rfl, ?_⟩) (by assumption) ?_
      rotate_left
      · intro X hSw
        go_simp
        try with_reducible rfl
      rotate_left
      try simp only [Act.put, List.setIfInBounds_toArray, List.set_cons_zero, List.set_cons_succ, List.getElem_toArray, List.getElem_cons_zero, List.getElem_cons_succ]
      refine wpAnyH_take (i := 8) (v := ?_) rfl (by kernel_rfl) (by kernel_rfl) (by kernel_rfl) (fun _ _ _ h => h) (Or.inl ⟨by rfl, ?_⟩) (by assumption) ?_
      rotate_left
      · intro X hSw
        go_simp
        try with_reducible rfl
      rotate_left
      try simp only [Act.put, List.setIfInBounds_toArray, List.set_cons_zero, List.set_cons_succ, List.getElem_toArray, List.getElem_cons_zero, List.getElem_cons_succ]
      refine wpAnyH_take (i := 9) (v := ?_) rfl (by kernel_rfl) (by kernel_rfl) (by kernel_rfl) (fun _ _ _ h => h) (Or.inl ⟨by rfl, ?_⟩) (by assumption) ?_
      rotate_left
      · intro X hSw
        go_simp
        try with_reducible rfl
      rotate_left
      try simp only [Act.put, List.setIfInBounds_toArray, List.set_cons_zero, List.set_cons_succ, List.getElem_toArray, List.getElem_cons_zero, List.getElem_cons_succ]
      refine wpAnyH_take (i := 10) (v := ?_) rfl (by kernel_rfl) (by kernel_rfl) (by kernel_rfl) (fun _ _ _ h => h) (Or.inl ⟨by rfl, ?_⟩) (by assumption) ?_
      rotate_left
      · intro X hSw
        have hc0 : X.cell? ⟨w.heap.size, 0, none⟩ = some (.int .i64 r1) := (Ha0.out.below hSw).cell 0
        have hc1 : X.cell? ⟨w.heap.size, 1, none⟩ = some (.int .i64 r2) := (Ha0.out.below hSw).cell 1
        have hc2 : X.cell? ⟨w.heap.size, 2, none⟩ = some (.int .i64 r3) := (Ha0.out.below hSw).cell 2
        have hc3 : X.cell? ⟨w.heap.size, 3, none⟩ = some (.int .i64 r4) := (Ha0.out.below hSw).cell 3
        have hc4 : X.cell? ⟨w.heap.size, 4, none⟩ = some (.int .i64 r5) := (Ha0.out.below hSw).cell 4
        have hc5 : X.cell? ⟨w.heap.size, 5, none⟩ = some (.int .i64 r6) := (Ha0.out.below hSw).cell 5
        have hc6 : X.cell? ⟨w.heap.size, 6, none⟩ = some (.int .i64 r7) := (Ha0.out.below hSw).cell 6
        have hc7 : X.cell? ⟨w.heap.size, 7, none⟩ = some (.int .i64 r8) := (Ha0.out.below hSw).cell 7
        have hc8 : X.cell? ⟨w.heap.size, 8, none⟩ = some (.int .i64 r9) := (Ha0.out.below hSw).cell 8
        have hc9 : X.cell? ⟨w.heap.size, 9, none⟩ = some (.string ⟨tx.toArray⟩) := (Ha0.out.below hSw).cell 9
        have hc10 : X.cell? ⟨w.heap.size, 10, none⟩ = some (.slice A ls.length cp) := (Ha0.out.below hSw).cell 10
        go_simp
        try with_reducible rfl
      rotate_left
      try simp only [Act.put, List.setIfInBounds_toArray, List.set_cons_zero, List.set_cons_succ, List.getElem_toArray, List.getElem_cons_zero, List.getElem_cons_succ]
      refine wpAnyH_take (i := 11) (v := ?_) rfl (by kernel_rfl) (by kernel_rfl) (by kernel_rfl) (fun _ _ _ h => h) (Or.inl ⟨by rfl, ?_⟩) (by assumption) ?_
      rotate_left
      · intro X hSw
        go_simp
        try with_reducible rfl
      rotate_left
      try simp only [Act.put, List.setIfInBounds_toArray, List.set_cons_zero, List.set_cons_succ, List.getElem_toArray, List.getElem_cons_zero, List.getElem_cons_succ]
      refine wpAnyH_take (i := 12) (v := ?_) rfl (by kernel_rfl) (by kernel_rfl) (by kernel_rfl) (fun _ _ _ h => h) (Or.inl ⟨by rfl, ?_⟩) (by assumption) ?_
      rotate_left
      · intro X hSw
        go_simp
        try with_reducible rfl
      rotate_left
      try simp only [Act.put, List.setIfInBounds_toArray, List.set_cons_zero, List.set_cons_succ, List.getElem_toArray, List.getElem_cons_zero, List.getElem_cons_succ]
      refine wpAnyH_take (i := 13) (v := ?_) rfl (by kernel_rfl) (by kernel_rfl) (by kernel_rfl) (fun _ _ _ h => h) (Or.inl ⟨by rfl, ?_⟩) (by assumption) ?_
      rotate_left
      · intro X hSw
        have hc0 : X.cell? ⟨(w.heap.size + 1), 0, none⟩ = some (.int .i64 q1) := (Hb0.out.below hSw).cell 0
        have hc1 : X.cell? ⟨(w.heap.size + 1), 1, none⟩ = some (.int .i64 q2) := (Hb0.out.below hSw).cell 1
        have hc2 : X.cell? ⟨(w.heap.size + 1), 2, none⟩ = some (.int .i64 q3) := (Hb0.out.below hSw).cell 2
        have hc3 : X.cell? ⟨(w.heap.size + 1), 3, none⟩ = some (.int .i64 q4) := (Hb0.out.below hSw).cell 3
        have hc4 : X.cell? ⟨(w.heap.size + 1), 4, none⟩ = some (.int .i64 q5) := (Hb0.out.below hSw).cell 4
        have hc5 : X.cell? ⟨(w.heap.size + 1), 5, none⟩ = some (.int .i64 q6) := (Hb0.out.below hSw).cell 5
        have hc6 : X.cell? ⟨(w.heap.size + 1), 6, none⟩ = some (.int .i64 q7) := (Hb0.out.below hSw).cell 6
        have hc7 : X.cell? ⟨(w.heap.size + 1), 7, none⟩ = some (.int .i64 q8) := (Hb0.out.below hSw).cell 7
        have hc8 : X.cell? ⟨(w.heap.size + 1), 8, none⟩ = some (.int .i64 q9) := (Hb0.out.below hSw).cell 8
        have hc9 : X.cell? ⟨(w.heap.size + 1), 9, none⟩ = some (.string ⟨tx.toArray⟩) := (Hb0.out.below hSw).cell 9
        have hc10 : X.cell? ⟨(w.heap.size + 1), 10, none⟩ = some (.slice B ks.length cq) := (Hb0.out.below hSw).cell 10
        go_simp
        try with_reducible rfl
      rotate_left
      try simp only [Act.put, List.setIfInBounds_toArray, List.set_cons_zero, List.set_cons_succ, List.getElem_toArray, List.getElem_cons_zero, List.getElem_cons_succ]
      refine wpAnyH_take (i := 14) (v := ?_) rfl (by kernel_rfl) (by kernel_rfl) (by kernel_rfl) (fun _ _ _ h => h) (Or.inl ⟨by rfl, ?_⟩) (by assumption) ?_
      rotate_left
      · intro X hSw
        go_simp
        try with_reducible rfl
      rotate_left
      try simp only [Act.put, List.setIfInBounds_toArray, List.set_cons_zero, List.set_cons_succ, List.getElem_toArray, List.getElem_cons_zero, List.getElem_cons_succ]
      refine wpAnyH_take (i := 15) (v := ?_) rfl (by kernel_rfl) (by kernel_rfl) (by kernel_rfl) (fun _ _ _ h => h) (Or.inl ⟨by rfl, ?_⟩) (by assumption) ?_
      rotate_left
      · intro X hSw
        go_simp
        try with_reducible rfl
      rotate_left
      try simp only [Act.put, List.setIfInBounds_toArray, List.set_cons_zero, List.set_cons_succ, List.getElem_toArray, List.getElem_cons_zero, List.getElem_cons_succ]
      refine wpAnyH_take (i := 16) (v := ?_) rfl (by kernel_rfl) (by kernel_rfl) (by kernel_rfl) (fun _ _ _ h => h) (Or.inl ⟨by rfl, ?_⟩) (by assumption) ?_
      rotate_left
      · intro X hSw
        go_simp
        try with_reducible rfl
      rotate_left
      try simp only [Act.put, List.setIfInBounds_toArray, List.set_cons_zero, List.set_cons_succ, List.getElem_toArray, List.getElem_cons_zero, List.getElem_cons_succ]
      refine wpAnyH_take (i := 17) (v := ?_) rfl (by kernel_rfl) (by kernel_rfl) (by kernel_rfl) (fun _ _ _ h => h) (Or.inl ⟨by rfl, ?_⟩) (by assumption) ?_
      rotate_left
      · intro X hSw
        go_simp
        try with_reducible rfl
      rotate_left
      try simp only [Act.put, List.setIfInBounds_toArray, List.set_cons_zero, List.set_cons_succ, List.getElem_toArray, List.getElem_cons_zero, List.getElem_cons_succ]
      refine wpAnyH_take (i := 18) (v := ?_) rfl (by kernel_rfl) (by kernel_rfl) (by kernel_rfl) (fun _ _ _ h => h) (Or.inl ⟨by rfl, ?_⟩) (by assumption) ?_
      rotate_left
      · intro X hSw
        go_simp
        try with_reducible rfl
      rotate_left
      try simp only [Act.put, List.setIfInBounds_toArray, List.set_cons_zero, List.set_cons_succ, List.getElem_toArray, List.getElem_cons_zero, List.getElem_cons_succ]
      refine wpAnyH_take (i := 19) (v := ?_) rfl (by kernel_rfl) (by kernel_rfl) (by kernel_rfl) (fun _ _ _ h => h) (Or.inl ⟨by rfl, ?_⟩) (by assumption) ?_
      rotate_left
      · intro X hSw
        have hc0 : X.cell? ⟨w.heap.size, 0, none⟩ = some (.int .i64 r1) := (Ha0.out.below hSw).cell 0
        have hc1 : X.cell? ⟨w.heap.size, 1, none⟩ = some (.int .i64 r2) := (Ha0.out.below hSw).cell 1
        have hc2 : X.cell? ⟨w.heap.size, 2, none⟩ = some (.int .i64 r3) := (Ha0.out.below hSw).cell 2
        have hc3 : X.cell? ⟨w.heap.size, 3, none⟩ = some (.int .i64 r4) := (Ha0.out.below hSw).cell 3
        have hc4 : X.cell? ⟨w.heap.size, 4, none⟩ = some (.int .i64 r5) := (Ha0.out.below hSw).cell 4
        have hc5 : X.cell? ⟨w.heap.size, 5, none⟩ = some (.int .i64 r6) := (Ha0.out.below hSw).cell 5
        have hc6 : X.cell? ⟨w.heap.size, 6, none⟩ = some (.int .i64 r7) := (Ha0.out.below hSw).cell 6
        have hc7 : X.cell? ⟨w.heap.size, 7, none⟩ = some (.int .i64 r8) := (Ha0.out.below hSw).cell 7
        have hc8 : X.cell? ⟨w.heap.size, 8, none⟩ = some (.int .i64 r9) := (Ha0.out.below hSw).cell 8
        have hc9 : X.cell? ⟨w.heap.size, 9, none⟩ = some (.string ⟨tx.toArray⟩) := (Ha0.out.below hSw).cell 9
        have hc10 : X.cell? ⟨w.heap.size, 10, none⟩ = some (.slice A ls.length cp) := (Ha0.out.below hSw).cell 10
        go_simp
        try with_reducible rfl
      rotate_left
      try simp only [Act.put, List.setIfInBounds_toArray, List.set_cons_zero, List.set_cons_succ, List.getElem_toArray, List.getElem_cons_zero, List.getElem_cons_succ]
      refine wpAnyH_take (i := 20) (v := ?_) rfl (by kernel_rfl) (by kernel_rfl) (by kernel_rfl) (fun _ _ _ h => h) (Or.inl ⟨by rfl, ?_⟩) (by assumption) ?_
      rotate_left
      · intro X hSw
        go_simp
        try with_reducible rfl
      rotate_left
      try simp only [Act.put, List.setIfInBounds_toArray, List.set_cons_zero, List.set_cons_succ, List.getElem_toArray, List.getElem_cons_zero, List.getElem_cons_succ]
      refine wpAnyH_take (i := 21) (v := ?_) rfl (by kernel_rfl) (by kernel_rfl) (by kernel_rfl) (fun _ _ _ h => h) (Or.inl ⟨by rfl, ?_⟩) (by assumption) ?_
      rotate_left
      · intro X hSw
        go_simp
        try with_reducible rfl
      rotate_left
      try simp only [Act.put, List.setIfInBounds_toArray, List.set_cons_zero, List.set_cons_succ, List.getElem_toArray, List.getElem_cons_zero, List.getElem_cons_succ]
      refine wpAnyH_take (i := 22) (v := ?_) rfl (by kernel_rfl) (by kernel_rfl) (by kernel_rfl) (fun _ _ _ h => h) (Or.inl ⟨by rfl, ?_⟩) (by assumption) ?_
      rotate_left
      · intro X hSw
        have hc0 : X.cell? ⟨(w.heap.size + 1), 0, none⟩ = some (.int .i64 q1) := (Hb0.out.below hSw).cell 0
        have hc1 : X.cell? ⟨(w.heap.size + 1), 1, none⟩ = some (.int .i64 q2) := (Hb0.out.below hSw).cell 1
        have hc2 : X.cell? ⟨(w.heap.size + 1), 2, none⟩ = some (.int .i64 q3) := (Hb0.out.below hSw).cell 2
        have hc3 : X.cell? ⟨(w.heap.size + 1), 3, none⟩ = some (.int .i64 q4) := (Hb0.out.below hSw).cell 3
        have hc4 : X.cell? ⟨(w.heap.size + 1), 4, none⟩ = some (.int .i64 q5) := (Hb0.out.below hSw).cell 4
        have hc5 : X.cell? ⟨(w.heap.size + 1), 5, none⟩ = some (.int .i64 q6) := (Hb0.out.below hSw).cell 5
        have hc6 : X.cell? ⟨(w.heap.size + 1), 6, none⟩ = some (.int .i64 q7) := (Hb0.out.below hSw).cell 6
        have hc7 : X.cell? ⟨(w.heap.size + 1), 7, none⟩ = some (.int .i64 q8) := (Hb0.out.below hSw).cell 7
        have hc8 : X.cell? ⟨(w.heap.size + 1), 8, none⟩ = some (.int .i64 q9) := (Hb0.out.below hSw).cell 8
        have hc9 : X.cell? ⟨(w.heap.size + 1), 9, none⟩ = some (.string ⟨tx.toArray⟩) := (Hb0.out.below hSw).cell 9
        have hc10 : X.cell? ⟨(w.heap.size + 1), 10, none⟩ = some (.slice B ks.length cq) := (Hb0.out.below hSw).cell 10
        go_simp
        try with_reducible rfl
      rotate_left
      try simp only [Act.put, List.setIfInBounds_toArray, List.set_cons_zero, List.set_cons_succ, List.getElem_toArray, List.getElem_cons_zero, List.getElem_cons_succ]
      refine wpAnyH_ready (rs := [23]) (by kernel_rfl) (by simp) ?_
      refine (AllReadyH.cons rfl (fun K hK => ?_) AllReadyH.nil)
      rw [if_pos (by rfl)]
      go_wp2_with fail
      refine (HE.out _ (below_trans BW_0.out hHeld BW_0.out.size)).mono ?_
      rintro e wq ⟨rfl, hb⟩
      replace hHeld := below_trans hHeld hb (Below.size hHeld)
      clear hb
      refine hK.out _ _ hHeld (fun _ => ?_)
      clear hK K
      try simp only [Act.put, List.setIfInBounds_toArray, List.set_cons_zero, List.set_cons_succ, List.getElem_toArray, List.getElem_cons_zero, List.getElem_cons_succ]
      refine wpAnyH_take (i := 24) (v := ?_) rfl (by kernel_rfl) (by kernel_rfl) (by kernel_rfl) (fun _ _ _ h => h) (Or.inl ⟨by rfl, ?_⟩) (by assumption) ?_
      rotate_left
      · intro X hSw
        go_simp
        try with_reducible rfl
      rotate_left
      try simp only [Act.put, List.setIfInBounds_toArray, List.set_cons_zero, List.set_cons_succ, List.getElem_toArray, List.getElem_cons_zero, List.getElem_cons_succ]
      refine wpAnyH_take (i := 25) (v := ?_) rfl (by kernel_rfl) (by kernel_rfl) (by kernel_rfl) (fun _ _ _ h => h) (Or.inl ⟨by rfl, ?_⟩) (by assumption) ?_
      rotate_left
      · intro X hSw
        go_simp
        try with_reducible rfl
      rotate_left
      try simp only [Act.put, List.setIfInBounds_toArray, List.set_cons_zero, List.set_cons_succ, List.getElem_toArray, List.getElem_cons_zero, List.getElem_cons_succ]
      refine wpAnyH_done (by kernel_rfl) ?_ _
      go_wp2_with fail
      go_ret
      exact ⟨by rw [HSR.out]; simp, below_trans BW_0.out hHeld BW_0.out.size⟩
    · have hnt : (tx == ux) = false := by rw [beq_eq_false_iff_ne]; exact htx
      rw [hnt] at HSR
      clear htx
      refine wp_region_held_drew (S := fun V => Below W0.heap.size W0 V) (by kernel_rfl) (below_dn (Below.refl _ _) 1) (fun hHeld => ?_)
      refine wpAnyH_take (i := 0) (v := ?_) rfl (by kernel_rfl) (by kernel_rfl) (by kernel_rfl) (fun _ _ _ h => h) (Or.inl ⟨by rfl, ?_⟩) (by assumption) ?_
      rotate_left
      · intro X hSw
        go_simp
        try with_reducible rfl
      rotate_left
      try simp only [Act.put, List.setIfInBounds_toArray, List.set_cons_zero, List.set_cons_succ, List.getElem_toArray, List.getElem_cons_zero, List.getElem_cons_succ]
      refine wpAnyH_take (i := 1) (v := ?_) rfl (by kernel_rfl) (by kernel_rfl) (by kernel_rfl) (fun _ _ _ h => h) (Or.inl ⟨by rfl, ?_⟩) (by assumption) ?_
      rotate_left
      · intro X hSw
        have hc0 : X.cell? ⟨w.heap.size, 0, none⟩ = some (.int .i64 r1) := (Ha0.out.below hSw).cell 0
        have hc1 : X.cell? ⟨w.heap.size, 1, none⟩ = some (.int .i64 r2) := (Ha0.out.below hSw).cell 1
        have hc2 : X.cell? ⟨w.heap.size, 2, none⟩ = some (.int .i64 r3) := (Ha0.out.below hSw).cell 2
        have hc3 : X.cell? ⟨w.heap.size, 3, none⟩ = some (.int .i64 r4) := (Ha0.out.below hSw).cell 3
        have hc4 : X.cell? ⟨w.heap.size, 4, none⟩ = some (.int .i64 r5) := (Ha0.out.below hSw).cell 4
        have hc5 : X.cell? ⟨w.heap.size, 5, none⟩ = some (.int .i64 r6) := (Ha0.out.below hSw).cell 5
        have hc6 : X.cell? ⟨w.heap.size, 6, none⟩ = some (.int .i64 r7) := (Ha0.out.below hSw).cell 6
        have hc7 : X.cell? ⟨w.heap.size, 7, none⟩ = some (.int .i64 r8) := (Ha0.out.below hSw).cell 7
        have hc8 : X.cell? ⟨w.heap.size, 8, none⟩ = some (.int .i64 r9) := (Ha0.out.below hSw).cell 8
        have hc9 : X.cell? ⟨w.heap.size, 9, none⟩ = some (.string ⟨tx.toArray⟩) := (Ha0.out.below hSw).cell 9
        have hc10 : X.cell? ⟨w.heap.size, 10, none⟩ = some (.slice A ls.length cp) := (Ha0.out.below hSw).cell 10
        go_simp
        try with_reducible rfl
      rotate_left
      try simp only [Act.put, List.setIfInBounds_toArray, List.set_cons_zero, List.set_cons_succ, List.getElem_toArray, List.getElem_cons_zero, List.getElem_cons_succ]
      refine wpAnyH_take (i := 3) (v := ?_) rfl (by kernel_rfl) (by kernel_rfl) (by kernel_rfl) (fun _ _ _ h => h) (Or.inl ⟨by rfl, ?_⟩) (by assumption) ?_
      rotate_left
      · intro X hSw
        go_simp
        try with_reducible rfl
      rotate_left
      try simp only [Act.put, List.setIfInBounds_toArray, List.set_cons_zero, List.set_cons_succ, List.getElem_toArray, List.getElem_cons_zero, List.getElem_cons_succ]
      refine wpAnyH_take (i := 4) (v := ?_) rfl (by kernel_rfl) (by kernel_rfl) (by kernel_rfl) (fun _ _ _ h => h) (Or.inl ⟨by rfl, ?_⟩) (by assumption) ?_
      rotate_left
      · intro X hSw
        have hc0 : X.cell? ⟨(w.heap.size + 1), 0, none⟩ = some (.int .i64 q1) := (Hb0.out.below hSw).cell 0
        have hc1 : X.cell? ⟨(w.heap.size + 1), 1, none⟩ = some (.int .i64 q2) := (Hb0.out.below hSw).cell 1
        have hc2 : X.cell? ⟨(w.heap.size + 1), 2, none⟩ = some (.int .i64 q3) := (Hb0.out.below hSw).cell 2
        have hc3 : X.cell? ⟨(w.heap.size + 1), 3, none⟩ = some (.int .i64 q4) := (Hb0.out.below hSw).cell 3
        have hc4 : X.cell? ⟨(w.heap.size + 1), 4, none⟩ = some (.int .i64 q5) := (Hb0.out.below hSw).cell 4
        have hc5 : X.cell? ⟨(w.heap.size + 1), 5, none⟩ = some (.int .i64 q6) := (Hb0.out.below hSw).cell 5
        have hc6 : X.cell? ⟨(w.heap.size + 1), 6, none⟩ = some (.int .i64 q7) := (Hb0.out.below hSw).cell 6
        have hc7 : X.cell? ⟨(w.heap.size + 1), 7, none⟩ = some (.int .i64 q8) := (Hb0.out.below hSw).cell 7
        have hc8 : X.cell? ⟨(w.heap.size + 1), 8, none⟩ = some (.int .i64 q9) := (Hb0.out.below hSw).cell 8
        have hc9 : X.cell? ⟨(w.heap.size + 1), 9, none⟩ = some (.string ⟨ux.toArray⟩) := (Hb0.out.below hSw).cell 9
        have hc10 : X.cell? ⟨(w.heap.size + 1), 10, none⟩ = some (.slice B ks.length cq) := (Hb0.out.below hSw).cell 10
        go_simp
        try with_reducible rfl
      rotate_left
      try simp only [Act.put, List.setIfInBounds_toArray, List.set_cons_zero, List.set_cons_succ, List.getElem_toArray, List.getElem_cons_zero, List.getElem_cons_succ]
      refine wpAnyH_ready (rs := [2]) (by kernel_rfl) (by simp) ?_
      refine (AllReadyH.cons rfl (fun K hK => ?_) AllReadyH.nil)
      rw [if_pos (by rfl)]
      go_wp2_with fail
      refine (wire_head r1 r2 r3 r4 r5 r6 r7 r8 r9 tx _ A ls.length cp rfl _).mono ?_
      rintro e wq ⟨rfl, hb⟩
      replace hHeld := below_trans hHeld hb (Below.size hHeld)
      clear hb
      refine hK.out _ _ hHeld (fun _ => ?_)
      clear hK K
      try simp only [Act.put, List.setIfInBounds_toArray, List.set_cons_zero, List.set_cons_succ, List.getElem_toArray, List.getElem_cons_zero, List.getElem_cons_succ]
      refine wpAnyH_ready (rs := [5]) (by kernel_rfl) (by simp) ?_
      refine (AllReadyH.cons rfl (fun K hK => ?_) AllReadyH.nil)
      rw [if_pos (by rfl)]
      go_wp2_with fail
      refine (wire_head q1 q2 q3 q4 q5 q6 q7 q8 q9 ux _ B ks.length cq rfl _).mono ?_
      rintro e wq ⟨rfl, hb⟩
      replace hHeld := below_trans hHeld hb (Below.size hHeld)
      clear hb
      refine hK.out _ _ hHeld (fun _ => ?_)
      clear hK K
      try simp only [Act.put, List.setIfInBounds_toArray, List.set_cons_zero, List.set_cons_succ, List.getElem_toArray, List.getElem_cons_zero, List.getElem_cons_succ]
      refine wpAnyH_take (i := 6) (v := .bool true) rfl (by kernel_rfl) (by kernel_rfl) (by kernel_rfl) (fun _ _ _ h => h) (Or.inl ⟨by rfl, ?_⟩) (by assumption) ?_
      · intro X hSw
        apply exec_eql (t := 66) (ty := 66) (x := .tmp 8) (y := .tmp 11) (hr := HEQ.out X)
        · rfl
        · rfl
        · rfl
        · kernel_rfl
      try simp only [Act.put, List.setIfInBounds_toArray, List.set_cons_zero, List.set_cons_succ, List.getElem_toArray, List.getElem_cons_zero, List.getElem_cons_succ]
      refine wpAnyH_take (i := 7) (v := ?_) rfl (by kernel_rfl) (by kernel_rfl) (by kernel_rfl) (fun _ _ _ h => h) (Or.inl ⟨by rfl, ?_⟩) (by assumption) ?_
      rotate_left
      · intro X hSw
        go_simp
        try with_reducible rfl
      rotate_left
      try simp only [Act.put, List.setIfInBounds_toArray, List.set_cons_zero, List.set_cons_succ, List.getElem_toArray, List.getElem_cons_zero, List.getElem_cons_succ]
      refine wpAnyH_take (i := 8) (v := ?_) rfl (by kernel_rfl) (by kernel_rfl) (by kernel_rfl) (fun _ _ _ h => h) (Or.inl ⟨by rfl, ?_⟩) (by assumption) ?_
      rotate_left
      · intro X hSw
        go_simp
        try with_reducible rfl
      rotate_left
      try simp only [Act.put, List.setIfInBounds_toArray, List.set_cons_zero, List.set_cons_succ, List.getElem_toArray, List.getElem_cons_zero, List.getElem_cons_succ]
      refine wpAnyH_take (i := 9) (v := ?_) rfl (by kernel_rfl) (by kernel_rfl) (by kernel_rfl) (fun _ _ _ h => h) (Or.inl ⟨by rfl, ?_⟩) (by assumption) ?_
      rotate_left
      · intro X hSw
        go_simp
        try with_reducible rfl
      rotate_left
      try simp only [Act.put, List.setIfInBounds_toArray, List.set_cons_zero, List.set_cons_succ, List.getElem_toArray, List.getElem_cons_zero, List.getElem_cons_succ]
      refine wpAnyH_take (i := 10) (v := ?_) rfl (by kernel_rfl) (by kernel_rfl) (by kernel_rfl) (fun _ _ _ h => h) (Or.inl ⟨by rfl, ?_⟩) (by assumption) ?_
      rotate_left
      · intro X hSw
        have hc0 : X.cell? ⟨w.heap.size, 0, none⟩ = some (.int .i64 r1) := (Ha0.out.below hSw).cell 0
        have hc1 : X.cell? ⟨w.heap.size, 1, none⟩ = some (.int .i64 r2) := (Ha0.out.below hSw).cell 1
        have hc2 : X.cell? ⟨w.heap.size, 2, none⟩ = some (.int .i64 r3) := (Ha0.out.below hSw).cell 2
        have hc3 : X.cell? ⟨w.heap.size, 3, none⟩ = some (.int .i64 r4) := (Ha0.out.below hSw).cell 3
        have hc4 : X.cell? ⟨w.heap.size, 4, none⟩ = some (.int .i64 r5) := (Ha0.out.below hSw).cell 4
        have hc5 : X.cell? ⟨w.heap.size, 5, none⟩ = some (.int .i64 r6) := (Ha0.out.below hSw).cell 5
        have hc6 : X.cell? ⟨w.heap.size, 6, none⟩ = some (.int .i64 r7) := (Ha0.out.below hSw).cell 6
        have hc7 : X.cell? ⟨w.heap.size, 7, none⟩ = some (.int .i64 r8) := (Ha0.out.below hSw).cell 7
        have hc8 : X.cell? ⟨w.heap.size, 8, none⟩ = some (.int .i64 r9) := (Ha0.out.below hSw).cell 8
        have hc9 : X.cell? ⟨w.heap.size, 9, none⟩ = some (.string ⟨tx.toArray⟩) := (Ha0.out.below hSw).cell 9
        have hc10 : X.cell? ⟨w.heap.size, 10, none⟩ = some (.slice A ls.length cp) := (Ha0.out.below hSw).cell 10
        go_simp
        try with_reducible rfl
      rotate_left
      try simp only [Act.put, List.setIfInBounds_toArray, List.set_cons_zero, List.set_cons_succ, List.getElem_toArray, List.getElem_cons_zero, List.getElem_cons_succ]
      refine wpAnyH_take (i := 11) (v := ?_) rfl (by kernel_rfl) (by kernel_rfl) (by kernel_rfl) (fun _ _ _ h => h) (Or.inl ⟨by rfl, ?_⟩) (by assumption) ?_
      rotate_left
      · intro X hSw
        go_simp
        try with_reducible rfl
      rotate_left
      try simp only [Act.put, List.setIfInBounds_toArray, List.set_cons_zero, List.set_cons_succ, List.getElem_toArray, List.getElem_cons_zero, List.getElem_cons_succ]
      refine wpAnyH_take (i := 12) (v := ?_) rfl (by kernel_rfl) (by kernel_rfl) (by kernel_rfl) (fun _ _ _ h => h) (Or.inl ⟨by rfl, ?_⟩) (by assumption) ?_
      rotate_left
      · intro X hSw
        go_simp
        try with_reducible rfl
      rotate_left
      try simp only [Act.put, List.setIfInBounds_toArray, List.set_cons_zero, List.set_cons_succ, List.getElem_toArray, List.getElem_cons_zero, List.getElem_cons_succ]
      refine wpAnyH_take (i := 13) (v := ?_) rfl (by kernel_rfl) (by kernel_rfl) (by kernel_rfl) (fun _ _ _ h => h) (Or.inl ⟨by rfl, ?_⟩) (by assumption) ?_
      rotate_left
      · intro X hSw
        have hc0 : X.cell? ⟨(w.heap.size + 1), 0, none⟩ = some (.int .i64 q1) := (Hb0.out.below hSw).cell 0
        have hc1 : X.cell? ⟨(w.heap.size + 1), 1, none⟩ = some (.int .i64 q2) := (Hb0.out.below hSw).cell 1
        have hc2 : X.cell? ⟨(w.heap.size + 1), 2, none⟩ = some (.int .i64 q3) := (Hb0.out.below hSw).cell 2
        have hc3 : X.cell? ⟨(w.heap.size + 1), 3, none⟩ = some (.int .i64 q4) := (Hb0.out.below hSw).cell 3
        have hc4 : X.cell? ⟨(w.heap.size + 1), 4, none⟩ = some (.int .i64 q5) := (Hb0.out.below hSw).cell 4
        have hc5 : X.cell? ⟨(w.heap.size + 1), 5, none⟩ = some (.int .i64 q6) := (Hb0.out.below hSw).cell 5
        have hc6 : X.cell? ⟨(w.heap.size + 1), 6, none⟩ = some (.int .i64 q7) := (Hb0.out.below hSw).cell 6
        have hc7 : X.cell? ⟨(w.heap.size + 1), 7, none⟩ = some (.int .i64 q8) := (Hb0.out.below hSw).cell 7
        have hc8 : X.cell? ⟨(w.heap.size + 1), 8, none⟩ = some (.int .i64 q9) := (Hb0.out.below hSw).cell 8
        have hc9 : X.cell? ⟨(w.heap.size + 1), 9, none⟩ = some (.string ⟨ux.toArray⟩) := (Hb0.out.below hSw).cell 9
        have hc10 : X.cell? ⟨(w.heap.size + 1), 10, none⟩ = some (.slice B ks.length cq) := (Hb0.out.below hSw).cell 10
        go_simp
        try with_reducible rfl
      rotate_left
      try simp only [Act.put, List.setIfInBounds_toArray, List.set_cons_zero, List.set_cons_succ, List.getElem_toArray, List.getElem_cons_zero, List.getElem_cons_succ]
      refine wpAnyH_take (i := 14) (v := ?_) rfl (by kernel_rfl) (by kernel_rfl) (by kernel_rfl) (fun _ _ _ h => h) (Or.inl ⟨by rfl, ?_⟩) (by assumption) ?_
      rotate_left
      · intro X hSw
        go_simp
        try with_reducible rfl
      rotate_left
      try simp only [Act.put, List.setIfInBounds_toArray, List.set_cons_zero, List.set_cons_succ, List.getElem_toArray, List.getElem_cons_zero, List.getElem_cons_succ]
      refine wpAnyH_take (i := 15) (v := ?_) rfl (by kernel_rfl) (by kernel_rfl) (by kernel_rfl) (fun _ _ _ h => h) (Or.inl ⟨by rfl, ?_⟩) (by assumption) ?_
      rotate_left
      · intro X hSw
        go_simp
        try with_reducible rfl
      rotate_left
      try simp only [Act.put, List.setIfInBounds_toArray, List.set_cons_zero, List.set_cons_succ, List.getElem_toArray, List.getElem_cons_zero, List.getElem_cons_succ]
      refine wpAnyH_take (i := 16) (v := ?_) rfl (by kernel_rfl) (by kernel_rfl) (by kernel_rfl) (fun _ _ _ h => h) (Or.inl ⟨by rfl, ?_⟩) (by assumption) ?_
      rotate_left
      · intro X hSw
        go_simp
        try with_reducible rfl
      rotate_left
      try simp only [Act.put, List.setIfInBounds_toArray, List.set_cons_zero, List.set_cons_succ, List.getElem_toArray, List.getElem_cons_zero, List.getElem_cons_succ]
      refine wpAnyH_take (i := 17) (v := undef) rfl (by kernel_rfl) (by kernel_rfl) (by kernel_rfl) (fun _ _ _ h => h) (Or.inr ⟨by rfl, rfl⟩) (by assumption) ?_
      try simp only [Act.put, List.setIfInBounds_toArray, List.set_cons_zero, List.set_cons_succ, List.getElem_toArray, List.getElem_cons_zero, List.getElem_cons_succ]
      refine wpAnyH_take (i := 18) (v := undef) rfl (by kernel_rfl) (by kernel_rfl) (by kernel_rfl) (fun _ _ _ h => h) (Or.inr ⟨by rfl, rfl⟩) (by assumption) ?_
      try simp only [Act.put, List.setIfInBounds_toArray, List.set_cons_zero, List.set_cons_succ, List.getElem_toArray, List.getElem_cons_zero, List.getElem_cons_succ]
      refine wpAnyH_take (i := 19) (v := undef) rfl (by kernel_rfl) (by kernel_rfl) (by kernel_rfl) (fun _ _ _ h => h) (Or.inr ⟨by rfl, rfl⟩) (by assumption) ?_
      try simp only [Act.put, List.setIfInBounds_toArray, List.set_cons_zero, List.set_cons_succ, List.getElem_toArray, List.getElem_cons_zero, List.getElem_cons_succ]
      refine wpAnyH_take (i := 20) (v := undef) rfl (by kernel_rfl) (by kernel_rfl) (by kernel_rfl) (fun _ _ _ h => h) (Or.inr ⟨by rfl, rfl⟩) (by assumption) ?_
      try simp only [Act.put, List.setIfInBounds_toArray, List.set_cons_zero, List.set_cons_succ, List.getElem_toArray, List.getElem_cons_zero, List.getElem_cons_succ]
      refine wpAnyH_take (i := 21) (v := undef) rfl (by kernel_rfl) (by kernel_rfl) (by kernel_rfl) (fun _ _ _ h => h) (Or.inr ⟨by rfl, rfl⟩) (by assumption) ?_
      try simp only [Act.put, List.setIfInBounds_toArray, List.set_cons_zero, List.set_cons_succ, List.getElem_toArray, List.getElem_cons_zero, List.getElem_cons_succ]
      refine wpAnyH_take (i := 22) (v := undef) rfl (by kernel_rfl) (by kernel_rfl) (by kernel_rfl) (fun _ _ _ h => h) (Or.inr ⟨by rfl, rfl⟩) (by assumption) ?_
      try simp only [Act.put, List.setIfInBounds_toArray, List.set_cons_zero, List.set_cons_succ, List.getElem_toArray, List.getElem_cons_zero, List.getElem_cons_succ]
      refine wpAnyH_ready (rs := [23]) (by kernel_rfl) (by simp) ?_
      refine (AllReadyH.cons rfl (fun K hK => ?_) AllReadyH.nil)
      rw [if_neg (by intro h; exact absurd (show false = true from h) (by decide))]
      refine hK.out _ _ hHeld (fun _ => ?_)
      clear hK K
      try simp only [Act.put, List.setIfInBounds_toArray, List.set_cons_zero, List.set_cons_succ, List.getElem_toArray, List.getElem_cons_zero, List.getElem_cons_succ]
      refine wpAnyH_take (i := 24) (v := ?_) rfl (by kernel_rfl) (by kernel_rfl) (by kernel_rfl) (fun _ _ _ h => h) (Or.inl ⟨by rfl, ?_⟩) (by assumption) ?_
      rotate_left
      · intro X hSw
        go_simp
        try with_reducible rfl
      rotate_left
      try simp only [Act.put, List.setIfInBounds_toArray, List.set_cons_zero, List.set_cons_succ, List.getElem_toArray, List.getElem_cons_zero, List.getElem_cons_succ]
      refine wpAnyH_take (i := 25) (v := ?_) rfl (by kernel_rfl) (by kernel_rfl) (by kernel_rfl) (fun _ _ _ h => h) (Or.inl ⟨by rfl, ?_⟩) (by assumption) ?_
      rotate_left
      · intro X hSw
        go_simp
        try with_reducible rfl
      rotate_left
      try simp only [Act.put, List.setIfInBounds_toArray, List.set_cons_zero, List.set_cons_succ, List.getElem_toArray, List.getElem_cons_zero, List.getElem_cons_succ]
      refine wpAnyH_done (by kernel_rfl) ?_ _
      go_wp2_with fail
      go_ret
      exact ⟨by rw [HSR.out]; rfl, below_trans BW_0.out hHeld BW_0.out.size⟩
end Go.Proofs.Ytpojhcpkmpbflaa
