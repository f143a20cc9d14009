/- wire.Rsp: it answers as the document says; old memory is as it was. -/
import Derived.Test.YtpojhcpkmpbflaaWireLay
set_option linter.unusedVariables false
set_option linter.unusedSimpArgs false
namespace Go.Proofs.Ytpojhcpkmpbflaa
open Go.RowKit Copyhold

/-- an answer -/
structure RspW where
  kind : Int
  client : Int
  epoch : Int
  seq : Int
  n : Int
  e : Int
  a : Int
  b : Int
  rn : Int
  text : List UInt8
  names : List (List UInt8)
def OkR (m : Nat) (x : RspW) : Prop := (I64 x.kind ∧ I64 x.client ∧ I64 x.epoch ∧ I64 x.seq ∧ I64 x.n ∧ I64 x.e ∧ I64 x.a ∧ I64 x.b ∧ I64 x.rn) ∧ x.text.length ≤ m ∧ (x.names.map List.length).sum + x.names.length ≤ 2147483648
def rspI (x : RspW) : List UInt8 := numsB [x.kind, x.client, x.epoch, x.seq, x.n] ++ (numsB [x.e, x.a, x.b, x.rn] ++ (textB x.text ++ listB x.names))
def rspB (x : RspW) : List UInt8 := putB (114 :: rspI x)
def rspCells (x : RspW) (lv : Value) : Array Value := #[.int .i64 x.kind, .int .i64 x.client, .int .i64 x.epoch, .int .i64 x.seq, .int .i64 x.n, .int .i64 x.e, .int .i64 x.a, .int .i64 x.b, .int .i64 x.rn, .string ⟨x.text.toArray⟩, lv]
/-- an answer as a value -/
def RspV (w : World) (v : Value) (x : RspW) : Prop := ∃ A c, v = .agg (rspCells x (.slice A x.names.length c)) ∧ Row w (.slice A x.names.length c) (x.names.map strV)
theorem RspV.below {w w' : World} {v : Value} {x : RspW} (h : RspV w v x) (hb : Below w.heap.size w w') : RspV w' v x := by
  obtain ⟨A, c, h1, h2⟩ := h
  exact ⟨A, c, h1, h2.below hb⟩

set_option maxRecDepth 100000 in
set_option maxHeartbeats 16000000 in
theorem wire_Rsp (x : RspW) (v : Value) (w : World) (hv : RspV w v x) (hc : OkR 1000000000 x) :
    Calls Try.prog 17 #[v] w fun e w' => e = .returned (.string ⟨(rspB x).toArray⟩) ∧ Below w.heap.size w w' := by
  obtain ⟨A, cp, rfl, hrow⟩ := hv
  obtain ⟨m1, m2, m3, m4, m5, e1, e2, e3, e4, tx, ls⟩ := x
  obtain ⟨⟨i1, i2, i3, i4, i5, i6, i7, i8, i9⟩, hc2, hc3⟩ := hc
  simp only at hrow hc2 hc3
  have hz1 : ∀ z ∈ [m1, m2, m3, m4, m5], I64 z := by intro z hz; simp at hz; rcases hz with rfl | rfl | rfl | rfl | rfl <;> assumption
  have hz2 : ∀ z ∈ [e1, e2, e3, e4], I64 z := by intro z hz; simp at hz; rcases hz with rfl | rfl | rfl | rfl <;> assumption
  have hB : rspB ⟨m1, m2, m3, m4, m5, e1, e2, e3, e4, tx, ls⟩ = putB (114 :: (numsB [m1, m2, m3, m4, m5] ++ (numsB [e1, e2, e3, e4] ++ (textB tx ++ listB ls)))) := rfl
  have hn1 := numsB_len _ hz1
  have hn2 := numsB_len _ hz2
  simp only [List.length_cons, List.length_nil] at hn1 hn2
  have hx1 := textB_len tx (by omega)
  have hfl := flat_len ls hc3
  have HZ1 := Lib.hid hz1
  have HZ2 := Lib.hid hz2
  have HB := Lib.hid hB
  have HLS := Lib.hid hc3
  have HR := Lib.hid (fun W (h : Below w.heap.size w W) => hrow.below h)
  obtain ⟨W0, hW0⟩ : ∃ W0, W0 = w.alloc (.cells #[.int .i64 m1, .int .i64 m2, .int .i64 m3, .int .i64 m4, .int .i64 m5, .int .i64 e1, .int .i64 e2, .int .i64 e3, .int .i64 e4, .string ⟨tx.toArray⟩, .slice A ls.length cp] 31) := ⟨_, rfl⟩
  have hbx : BoxB w w.heap.size 31 #[.int .i64 m1, .int .i64 m2, .int .i64 m3, .int .i64 m4, .int .i64 m5, .int .i64 e1, .int .i64 e2, .int .i64 e3, .int .i64 e4, .string ⟨tx.toArray⟩, .slice A ls.length cp] W0 := by rw [hW0]; exact BoxB.new _ _ _
  have HW := Lib.hid hW0
  clear hz1 hz2 hB hW0 i1 i2 i3 i4 i5 i6 i7 i8 i9 hrow
  unfold rspCells
  simp only
  go_enter Try.func17, Try.ntmps17
  go_wp2_with fail
  rw [← HW.out]
  refine wp_region_held_drew (S := BoxB w (w.heap.size) 31 #[.int .i64 m1, .int .i64 m2, .int .i64 m3, .int .i64 m4, .int .i64 m5, .int .i64 e1, .int .i64 e2, .int .i64 e3, .int .i64 e4, .string ⟨tx.toArray⟩, .slice A ls.length cp]) (by kernel_rfl) (hbx.drew) (fun hHeld => ?_)
  refine wpAnyH_take (i := 0) (v := ?_) rfl (by kernel_rfl) (by kernel_rfl) (by kernel_rfl) (fun _ _ _ h => h) (Or.inl ⟨by rfl, ?_⟩) (by assumption) ?_
  rotate_left
  · intro X hSw
    go_simp
    try with_reducible rfl
  rotate_left
  try simp only [Act.put, List.setIfInBounds_toArray, List.set_cons_zero, List.set_cons_succ, List.getElem_toArray, List.getElem_cons_zero, List.getElem_cons_succ]
  refine wpAnyH_take (i := 1) (v := ?_) rfl (by kernel_rfl) (by kernel_rfl) (by kernel_rfl) (fun _ _ _ h => h) (Or.inl ⟨by rfl, ?_⟩) (by assumption) ?_
  rotate_left
  · intro X hSw
    have hc0 : X.cell? ⟨w.heap.size, 0, none⟩ = some (.int .i64 m1) := hSw.1.cell 0
    go_simp
    try with_reducible rfl
  rotate_left
  try simp only [Act.put, List.setIfInBounds_toArray, List.set_cons_zero, List.set_cons_succ, List.getElem_toArray, List.getElem_cons_zero, List.getElem_cons_succ]
  refine wpAnyH_take (i := 2) (v := ?_) rfl (by kernel_rfl) (by kernel_rfl) (by kernel_rfl) (fun _ _ _ h => h) (Or.inl ⟨by rfl, ?_⟩) (by assumption) ?_
  rotate_left
  · intro X hSw
    go_simp
    try with_reducible rfl
  rotate_left
  try simp only [Act.put, List.setIfInBounds_toArray, List.set_cons_zero, List.set_cons_succ, List.getElem_toArray, List.getElem_cons_zero, List.getElem_cons_succ]
  refine wpAnyH_take (i := 3) (v := ?_) rfl (by kernel_rfl) (by kernel_rfl) (by kernel_rfl) (fun _ _ _ h => h) (Or.inl ⟨by rfl, ?_⟩) (by assumption) ?_
  rotate_left
  · intro X hSw
    have hc1 : X.cell? ⟨w.heap.size, 1, none⟩ = some (.int .i64 m2) := hSw.1.cell 1
    go_simp
    try with_reducible rfl
  rotate_left
  try simp only [Act.put, List.setIfInBounds_toArray, List.set_cons_zero, List.set_cons_succ, List.getElem_toArray, List.getElem_cons_zero, List.getElem_cons_succ]
  refine wpAnyH_take (i := 4) (v := ?_) rfl (by kernel_rfl) (by kernel_rfl) (by kernel_rfl) (fun _ _ _ h => h) (Or.inl ⟨by rfl, ?_⟩) (by assumption) ?_
  rotate_left
  · intro X hSw
    go_simp
    try with_reducible rfl
  rotate_left
  try simp only [Act.put, List.setIfInBounds_toArray, List.set_cons_zero, List.set_cons_succ, List.getElem_toArray, List.getElem_cons_zero, List.getElem_cons_succ]
  refine wpAnyH_take (i := 5) (v := ?_) rfl (by kernel_rfl) (by kernel_rfl) (by kernel_rfl) (fun _ _ _ h => h) (Or.inl ⟨by rfl, ?_⟩) (by assumption) ?_
  rotate_left
  · intro X hSw
    have hc2 : X.cell? ⟨w.heap.size, 2, none⟩ = some (.int .i64 m3) := hSw.1.cell 2
    go_simp
    try with_reducible rfl
  rotate_left
  try simp only [Act.put, List.setIfInBounds_toArray, List.set_cons_zero, List.set_cons_succ, List.getElem_toArray, List.getElem_cons_zero, List.getElem_cons_succ]
  refine wpAnyH_take (i := 6) (v := ?_) rfl (by kernel_rfl) (by kernel_rfl) (by kernel_rfl) (fun _ _ _ h => h) (Or.inl ⟨by rfl, ?_⟩) (by assumption) ?_
  rotate_left
  · intro X hSw
    go_simp
    try with_reducible rfl
  rotate_left
  try simp only [Act.put, List.setIfInBounds_toArray, List.set_cons_zero, List.set_cons_succ, List.getElem_toArray, List.getElem_cons_zero, List.getElem_cons_succ]
  refine wpAnyH_take (i := 7) (v := ?_) rfl (by kernel_rfl) (by kernel_rfl) (by kernel_rfl) (fun _ _ _ h => h) (Or.inl ⟨by rfl, ?_⟩) (by assumption) ?_
  rotate_left
  · intro X hSw
    have hc3 : X.cell? ⟨w.heap.size, 3, none⟩ = some (.int .i64 m4) := hSw.1.cell 3
    go_simp
    try with_reducible rfl
  rotate_left
  try simp only [Act.put, List.setIfInBounds_toArray, List.set_cons_zero, List.set_cons_succ, List.getElem_toArray, List.getElem_cons_zero, List.getElem_cons_succ]
  refine wpAnyH_take (i := 8) (v := ?_) rfl (by kernel_rfl) (by kernel_rfl) (by kernel_rfl) (fun _ _ _ h => h) (Or.inl ⟨by rfl, ?_⟩) (by assumption) ?_
  rotate_left
  · intro X hSw
    go_simp
    try with_reducible rfl
  rotate_left
  try simp only [Act.put, List.setIfInBounds_toArray, List.set_cons_zero, List.set_cons_succ, List.getElem_toArray, List.getElem_cons_zero, List.getElem_cons_succ]
  refine wpAnyH_take (i := 9) (v := ?_) rfl (by kernel_rfl) (by kernel_rfl) (by kernel_rfl) (fun _ _ _ h => h) (Or.inl ⟨by rfl, ?_⟩) (by assumption) ?_
  rotate_left
  · intro X hSw
    have hc4 : X.cell? ⟨w.heap.size, 4, none⟩ = some (.int .i64 m5) := hSw.1.cell 4
    go_simp
    try with_reducible rfl
  rotate_left
  try simp only [Act.put, List.setIfInBounds_toArray, List.set_cons_zero, List.set_cons_succ, List.getElem_toArray, List.getElem_cons_zero, List.getElem_cons_succ]
  refine wpAnyH_take (i := 13) (v := ?_) rfl (by kernel_rfl) (by kernel_rfl) (by kernel_rfl) (fun _ _ _ h => h) (Or.inl ⟨by rfl, ?_⟩) (by assumption) ?_
  rotate_left
  · intro X hSw
    go_simp
    try with_reducible rfl
  rotate_left
  try simp only [Act.put, List.setIfInBounds_toArray, List.set_cons_zero, List.set_cons_succ, List.getElem_toArray, List.getElem_cons_zero, List.getElem_cons_succ]
  refine wpAnyH_take (i := 14) (v := ?_) rfl (by kernel_rfl) (by kernel_rfl) (by kernel_rfl) (fun _ _ _ h => h) (Or.inl ⟨by rfl, ?_⟩) (by assumption) ?_
  rotate_left
  · intro X hSw
    go_simp
    try with_reducible rfl
  rotate_left
  try simp only [Act.put, List.setIfInBounds_toArray, List.set_cons_zero, List.set_cons_succ, List.getElem_toArray, List.getElem_cons_zero, List.getElem_cons_succ]
  refine wpAnyH_take (i := 15) (v := ?_) rfl (by kernel_rfl) (by kernel_rfl) (by kernel_rfl) (fun _ _ _ h => h) (Or.inl ⟨by rfl, ?_⟩) (by assumption) ?_
  rotate_left
  · intro X hSw
    have hc5 : X.cell? ⟨w.heap.size, 5, none⟩ = some (.int .i64 e1) := hSw.1.cell 5
    go_simp
    try with_reducible rfl
  rotate_left
  try simp only [Act.put, List.setIfInBounds_toArray, List.set_cons_zero, List.set_cons_succ, List.getElem_toArray, List.getElem_cons_zero, List.getElem_cons_succ]
  refine wpAnyH_take (i := 16) (v := ?_) rfl (by kernel_rfl) (by kernel_rfl) (by kernel_rfl) (fun _ _ _ h => h) (Or.inl ⟨by rfl, ?_⟩) (by assumption) ?_
  rotate_left
  · intro X hSw
    go_simp
    try with_reducible rfl
  rotate_left
  try simp only [Act.put, List.setIfInBounds_toArray, List.set_cons_zero, List.set_cons_succ, List.getElem_toArray, List.getElem_cons_zero, List.getElem_cons_succ]
  refine wpAnyH_take (i := 17) (v := ?_) rfl (by kernel_rfl) (by kernel_rfl) (by kernel_rfl) (fun _ _ _ h => h) (Or.inl ⟨by rfl, ?_⟩) (by assumption) ?_
  rotate_left
  · intro X hSw
    go_simp
    try with_reducible rfl
  rotate_left
  try simp only [Act.put, List.setIfInBounds_toArray, List.set_cons_zero, List.set_cons_succ, List.getElem_toArray, List.getElem_cons_zero, List.getElem_cons_succ]
  refine wpAnyH_take (i := 18) (v := ?_) rfl (by kernel_rfl) (by kernel_rfl) (by kernel_rfl) (fun _ _ _ h => h) (Or.inl ⟨by rfl, ?_⟩) (by assumption) ?_
  rotate_left
  · intro X hSw
    have hc6 : X.cell? ⟨w.heap.size, 6, none⟩ = some (.int .i64 e2) := hSw.1.cell 6
    go_simp
    try with_reducible rfl
  rotate_left
  try simp only [Act.put, List.setIfInBounds_toArray, List.set_cons_zero, List.set_cons_succ, List.getElem_toArray, List.getElem_cons_zero, List.getElem_cons_succ]
  refine wpAnyH_take (i := 19) (v := ?_) rfl (by kernel_rfl) (by kernel_rfl) (by kernel_rfl) (fun _ _ _ h => h) (Or.inl ⟨by rfl, ?_⟩) (by assumption) ?_
  rotate_left
  · intro X hSw
    go_simp
    try with_reducible rfl
  rotate_left
  try simp only [Act.put, List.setIfInBounds_toArray, List.set_cons_zero, List.set_cons_succ, List.getElem_toArray, List.getElem_cons_zero, List.getElem_cons_succ]
  refine wpAnyH_take (i := 20) (v := ?_) rfl (by kernel_rfl) (by kernel_rfl) (by kernel_rfl) (fun _ _ _ h => h) (Or.inl ⟨by rfl, ?_⟩) (by assumption) ?_
  rotate_left
  · intro X hSw
    go_simp
    try with_reducible rfl
  rotate_left
  try simp only [Act.put, List.setIfInBounds_toArray, List.set_cons_zero, List.set_cons_succ, List.getElem_toArray, List.getElem_cons_zero, List.getElem_cons_succ]
  refine wpAnyH_take (i := 21) (v := ?_) rfl (by kernel_rfl) (by kernel_rfl) (by kernel_rfl) (fun _ _ _ h => h) (Or.inl ⟨by rfl, ?_⟩) (by assumption) ?_
  rotate_left
  · intro X hSw
    have hc7 : X.cell? ⟨w.heap.size, 7, none⟩ = some (.int .i64 e3) := hSw.1.cell 7
    go_simp
    try with_reducible rfl
  rotate_left
  try simp only [Act.put, List.setIfInBounds_toArray, List.set_cons_zero, List.set_cons_succ, List.getElem_toArray, List.getElem_cons_zero, List.getElem_cons_succ]
  refine wpAnyH_take (i := 22) (v := ?_) rfl (by kernel_rfl) (by kernel_rfl) (by kernel_rfl) (fun _ _ _ h => h) (Or.inl ⟨by rfl, ?_⟩) (by assumption) ?_
  rotate_left
  · intro X hSw
    go_simp
    try with_reducible rfl
  rotate_left
  try simp only [Act.put, List.setIfInBounds_toArray, List.set_cons_zero, List.set_cons_succ, List.getElem_toArray, List.getElem_cons_zero, List.getElem_cons_succ]
  refine wpAnyH_take (i := 23) (v := ?_) rfl (by kernel_rfl) (by kernel_rfl) (by kernel_rfl) (fun _ _ _ h => h) (Or.inl ⟨by rfl, ?_⟩) (by assumption) ?_
  rotate_left
  · intro X hSw
    go_simp
    try with_reducible rfl
  rotate_left
  try simp only [Act.put, List.setIfInBounds_toArray, List.set_cons_zero, List.set_cons_succ, List.getElem_toArray, List.getElem_cons_zero, List.getElem_cons_succ]
  refine wpAnyH_take (i := 24) (v := ?_) rfl (by kernel_rfl) (by kernel_rfl) (by kernel_rfl) (fun _ _ _ h => h) (Or.inl ⟨by rfl, ?_⟩) (by assumption) ?_
  rotate_left
  · intro X hSw
    have hc8 : X.cell? ⟨w.heap.size, 8, none⟩ = some (.int .i64 e4) := hSw.1.cell 8
    go_simp
    try with_reducible rfl
  rotate_left
  try simp only [Act.put, List.setIfInBounds_toArray, List.set_cons_zero, List.set_cons_succ, List.getElem_toArray, List.getElem_cons_zero, List.getElem_cons_succ]
  refine wpAnyH_take (i := 28) (v := ?_) rfl (by kernel_rfl) (by kernel_rfl) (by kernel_rfl) (fun _ _ _ h => h) (Or.inl ⟨by rfl, ?_⟩) (by assumption) ?_
  rotate_left
  · intro X hSw
    go_simp
    try with_reducible rfl
  rotate_left
  try simp only [Act.put, List.setIfInBounds_toArray, List.set_cons_zero, List.set_cons_succ, List.getElem_toArray, List.getElem_cons_zero, List.getElem_cons_succ]
  refine wpAnyH_take (i := 29) (v := ?_) rfl (by kernel_rfl) (by kernel_rfl) (by kernel_rfl) (fun _ _ _ h => h) (Or.inl ⟨by rfl, ?_⟩) (by assumption) ?_
  rotate_left
  · intro X hSw
    go_simp
    try with_reducible rfl
  rotate_left
  try simp only [Act.put, List.setIfInBounds_toArray, List.set_cons_zero, List.set_cons_succ, List.getElem_toArray, List.getElem_cons_zero, List.getElem_cons_succ]
  refine wpAnyH_take (i := 30) (v := ?_) rfl (by kernel_rfl) (by kernel_rfl) (by kernel_rfl) (fun _ _ _ h => h) (Or.inl ⟨by rfl, ?_⟩) (by assumption) ?_
  rotate_left
  · intro X hSw
    have hc9 : X.cell? ⟨w.heap.size, 9, none⟩ = some (.string ⟨tx.toArray⟩) := hSw.1.cell 9
    go_simp
    try with_reducible rfl
  rotate_left
  try simp only [Act.put, List.setIfInBounds_toArray, List.set_cons_zero, List.set_cons_succ, List.getElem_toArray, List.getElem_cons_zero, List.getElem_cons_succ]
  refine wpAnyH_take (i := 33) (v := ?_) rfl (by kernel_rfl) (by kernel_rfl) (by kernel_rfl) (fun _ _ _ h => h) (Or.inl ⟨by rfl, ?_⟩) (by assumption) ?_
  rotate_left
  · intro X hSw
    go_simp
    try with_reducible rfl
  rotate_left
  try simp only [Act.put, List.setIfInBounds_toArray, List.set_cons_zero, List.set_cons_succ, List.getElem_toArray, List.getElem_cons_zero, List.getElem_cons_succ]
  refine wpAnyH_take (i := 34) (v := ?_) rfl (by kernel_rfl) (by kernel_rfl) (by kernel_rfl) (fun _ _ _ h => h) (Or.inl ⟨by rfl, ?_⟩) (by assumption) ?_
  rotate_left
  · intro X hSw
    go_simp
    try with_reducible rfl
  rotate_left
  try simp only [Act.put, List.setIfInBounds_toArray, List.set_cons_zero, List.set_cons_succ, List.getElem_toArray, List.getElem_cons_zero, List.getElem_cons_succ]
  refine wpAnyH_take (i := 35) (v := ?_) rfl (by kernel_rfl) (by kernel_rfl) (by kernel_rfl) (fun _ _ _ h => h) (Or.inl ⟨by rfl, ?_⟩) (by assumption) ?_
  rotate_left
  · intro X hSw
    have hc10 : X.cell? ⟨w.heap.size, 10, none⟩ = some (.slice A ls.length cp) := hSw.1.cell 10
    go_simp
    try with_reducible rfl
  rotate_left
  try simp only [Act.put, List.setIfInBounds_toArray, List.set_cons_zero, List.set_cons_succ, List.getElem_toArray, List.getElem_cons_zero, List.getElem_cons_succ]
  refine wpAnyH_ready (rs := [10, 25]) (by kernel_rfl) (by simp) ?_
  refine (AllReadyH.cons rfl (fun K hK => ?_) (AllReadyH.cons rfl (fun K hK => ?_) AllReadyH.nil))
  · rw [if_pos (by rfl)]
    go_wp2_with fail
    obtain ⟨V1, hV1⟩ : ∃ V1, V1 = (W0.alloc (.cells #[.int .i64 m1, .int .i64 m2, .int .i64 m3, .int .i64 m4, .int .i64 m5] 3)).drew := ⟨_, rfl⟩
    rw [← hV1]
    replace hHeld : BoxB w (w.heap.size) 31 #[.int .i64 m1, .int .i64 m2, .int .i64 m3, .int .i64 m4, .int .i64 m5, .int .i64 e1, .int .i64 e2, .int .i64 e3, .int .i64 e4, .string ⟨tx.toArray⟩, .slice A ls.length cp] V1 := by rw [hV1]; exact (hbx.alloc _).drew
    have HNV1 := Lib.hid (show NumsIn V1 (.slice (some ⟨W0.heap.size, 0, none⟩) 5 5) [m1, m2, m3, m4, m5] from by rw [hV1]; exact Sl.same (nums_new W0 [m1, m2, m3, m4, m5] _ 5 rfl) rfl)
    clear hV1
    refine hK.out _ _ hHeld (fun _ => ?_)
    clear hK K
    try simp only [Act.put, List.setIfInBounds_toArray, List.set_cons_zero, List.set_cons_succ, List.getElem_toArray, List.getElem_cons_zero, List.getElem_cons_succ]
    refine wpAnyH_ready (rs := [11, 25]) (by kernel_rfl) (by simp) ?_
    refine (AllReadyH.cons rfl (fun K hK => ?_) (AllReadyH.cons rfl (fun K hK => ?_) AllReadyH.nil))
    · rw [if_pos (by rfl)]
      go_wp2_with fail
      refine (wire_numbers _ [m1, m2, m3, m4, m5] _ HNV1.out (by simp) (by simp) HZ1.out).mono ?_
      rintro e w1 ⟨rfl, hb⟩
      replace hHeld := hHeld.below hb
      clear hb
      refine hK.out _ _ hHeld (fun _ => ?_)
      clear hK K
      try simp only [Act.put, List.setIfInBounds_toArray, List.set_cons_zero, List.set_cons_succ, List.getElem_toArray, List.getElem_cons_zero, List.getElem_cons_succ]
      refine wpAnyH_take (i := 12) (v := ?_) rfl (by kernel_rfl) (by kernel_rfl) (by kernel_rfl) (fun _ _ _ h => h) (Or.inl ⟨by rfl, ?_⟩) (by assumption) ?_
      rotate_left
      · intro X hSw
        have hq : ¬ 9223372036854775807 < 1 + (numsB [m1, m2, m3, m4, m5]).length := by omega
        have hq1 := cat1 114 (numsB [m1, m2, m3, m4, m5])
        go_simp
        try with_reducible rfl
      rotate_left
      try simp only [Act.put, List.setIfInBounds_toArray, List.set_cons_zero, List.set_cons_succ, List.getElem_toArray, List.getElem_cons_zero, List.getElem_cons_succ]
      refine wpAnyH_ready (rs := [25]) (by kernel_rfl) (by simp) ?_
      refine (AllReadyH.cons rfl (fun K hK => ?_) AllReadyH.nil)
      rw [if_pos (by rfl)]
      go_wp2_with fail
      obtain ⟨V2, hV2⟩ : ∃ V2, V2 = w1.alloc (.cells #[.int .i64 e1, .int .i64 e2, .int .i64 e3, .int .i64 e4] 3) := ⟨_, rfl⟩
      rw [← hV2]
      replace hHeld : BoxB w (w.heap.size) 31 #[.int .i64 m1, .int .i64 m2, .int .i64 m3, .int .i64 m4, .int .i64 m5, .int .i64 e1, .int .i64 e2, .int .i64 e3, .int .i64 e4, .string ⟨tx.toArray⟩, .slice A ls.length cp] V2 := by rw [hV2]; exact hHeld.alloc _
      have HNV2 := Lib.hid (show NumsIn V2 (.slice (some ⟨w1.heap.size, 0, none⟩) 4 4) [e1, e2, e3, e4] from by rw [hV2]; exact nums_new w1 [e1, e2, e3, e4] _ 4 rfl)
      clear hV2
      refine hK.out _ _ hHeld (fun _ => ?_)
      clear hK K
      try simp only [Act.put, List.setIfInBounds_toArray, List.set_cons_zero, List.set_cons_succ, List.getElem_toArray, List.getElem_cons_zero, List.getElem_cons_succ]
      refine wpAnyH_ready (rs := [26]) (by kernel_rfl) (by simp) ?_
      refine (AllReadyH.cons rfl (fun K hK => ?_) AllReadyH.nil)
      rw [if_pos (by rfl)]
      go_wp2_with fail
      refine (wire_numbers _ [e1, e2, e3, e4] _ HNV2.out (by simp) (by simp) HZ2.out).mono ?_
      rintro e w2 ⟨rfl, hb⟩
      replace hHeld := hHeld.below hb
      clear hb
      refine hK.out _ _ hHeld (fun _ => ?_)
      clear hK K
      try simp only [Act.put, List.setIfInBounds_toArray, List.set_cons_zero, List.set_cons_succ, List.getElem_toArray, List.getElem_cons_zero, List.getElem_cons_succ]
      refine wpAnyH_take (i := 27) (v := ?_) rfl (by kernel_rfl) (by kernel_rfl) (by kernel_rfl) (fun _ _ _ h => h) (Or.inl ⟨by rfl, ?_⟩) (by assumption) ?_
      rotate_left
      · intro X hSw
        have hq : ¬ 9223372036854775807 < (numsB [m1, m2, m3, m4, m5]).length + 1 + (numsB [e1, e2, e3, e4]).length := by omega
        go_simp
        try with_reducible rfl
      rotate_left
      try simp only [Act.put, List.setIfInBounds_toArray, List.set_cons_zero, List.set_cons_succ, List.getElem_toArray, List.getElem_cons_zero, List.getElem_cons_succ]
      refine wpAnyH_ready (rs := [31]) (by kernel_rfl) (by simp) ?_
      refine (AllReadyH.cons rfl (fun K hK => ?_) AllReadyH.nil)
      rw [if_pos (by rfl)]
      go_wp2_with fail
      refine (octet_Text tx _ (by omega)).mono ?_
      rintro e w5 ⟨rfl, hb⟩
      replace hHeld := hHeld.below hb
      clear hb
      refine hK.out _ _ hHeld (fun _ => ?_)
      clear hK K
      try simp only [Act.put, List.setIfInBounds_toArray, List.set_cons_zero, List.set_cons_succ, List.getElem_toArray, List.getElem_cons_zero, List.getElem_cons_succ]
      refine wpAnyH_take (i := 32) (v := ?_) rfl (by kernel_rfl) (by kernel_rfl) (by kernel_rfl) (fun _ _ _ h => h) (Or.inl ⟨by rfl, ?_⟩) (by assumption) ?_
      rotate_left
      · intro X hSw
        have hq : ¬ 9223372036854775807 < (numsB [m1, m2, m3, m4, m5]).length + (numsB [e1, e2, e3, e4]).length + 1 + (textB tx).length := by omega
        have hq' : ¬ 9223372036854775807 < (numsB [m1, m2, m3, m4, m5]).length + ((numsB [e1, e2, e3, e4]).length) + 1 + (textB tx).length := by omega
        go_simp
        try with_reducible rfl
      rotate_left
      try simp only [Act.put, List.setIfInBounds_toArray, List.set_cons_zero, List.set_cons_succ, List.getElem_toArray, List.getElem_cons_zero, List.getElem_cons_succ]
      refine wpAnyH_ready (rs := [36]) (by kernel_rfl) (by simp) ?_
      refine (AllReadyH.cons rfl (fun K hK => ?_) AllReadyH.nil)
      rw [if_pos (by rfl)]
      go_wp2_with fail
      refine (octet_List _ ls _ (HR.out _ hHeld.2) HLS.out).mono ?_
      rintro e w6 ⟨rfl, hb⟩
      replace hHeld := hHeld.below hb
      clear hb
      refine hK.out _ _ hHeld (fun _ => ?_)
      clear hK K
      try simp only [Act.put, List.setIfInBounds_toArray, List.set_cons_zero, List.set_cons_succ, List.getElem_toArray, List.getElem_cons_zero, List.getElem_cons_succ]
      refine wpAnyH_take (i := 37) (v := ?_) rfl (by kernel_rfl) (by kernel_rfl) (by kernel_rfl) (fun _ _ _ h => h) (Or.inl ⟨by rfl, ?_⟩) (by assumption) ?_
      rotate_left
      · intro X hSw
        have hq : ¬ 9223372036854775807 < (numsB [m1, m2, m3, m4, m5]).length + ((numsB [e1, e2, e3, e4]).length + (textB tx).length) + 1 + (listB ls).length := by omega
        go_simp
        try with_reducible rfl
      rotate_left
      try simp only [Act.put, List.setIfInBounds_toArray, List.set_cons_zero, List.set_cons_succ, List.getElem_toArray, List.getElem_cons_zero, List.getElem_cons_succ]
      refine wpAnyH_ready (rs := [38]) (by kernel_rfl) (by simp) ?_
      refine (AllReadyH.cons rfl (fun K hK => ?_) AllReadyH.nil)
      rw [if_pos (by rfl)]
      go_wp2_with fail
      refine (seal_Put (114 :: (numsB [m1, m2, m3, m4, m5] ++ (numsB [e1, e2, e3, e4] ++ (textB tx ++ listB ls)))) _ (by simp only [List.length_cons, List.length_append]; omega)).mono ?_
      rintro e w7 ⟨rfl, hb⟩
      replace hHeld := hHeld.below hb
      clear hb
      refine hK.out _ _ hHeld (fun _ => ?_)
      clear hK K
      try simp only [Act.put, List.setIfInBounds_toArray, List.set_cons_zero, List.set_cons_succ, List.getElem_toArray, List.getElem_cons_zero, List.getElem_cons_succ]
      refine wpAnyH_take (i := 39) (v := ?_) rfl (by kernel_rfl) (by kernel_rfl) (by kernel_rfl) (fun _ _ _ h => h) (Or.inl ⟨by rfl, ?_⟩) (by assumption) ?_
      rotate_left
      · intro X hSw
        go_simp
        try with_reducible rfl
      rotate_left
      try simp only [Act.put, List.setIfInBounds_toArray, List.set_cons_zero, List.set_cons_succ, List.getElem_toArray, List.getElem_cons_zero, List.getElem_cons_succ]
      refine wpAnyH_done (by kernel_rfl) ?_ _
      go_wp2_with fail
      go_ret
      exact ⟨by rw [HB.out]; rfl, hHeld.2⟩
    · rw [if_pos (by rfl)]
      go_wp2_with fail
      obtain ⟨V2, hV2⟩ : ∃ V2, V2 = V1.alloc (.cells #[.int .i64 e1, .int .i64 e2, .int .i64 e3, .int .i64 e4] 3) := ⟨_, rfl⟩
      rw [← hV2]
      replace hHeld : BoxB w (w.heap.size) 31 #[.int .i64 m1, .int .i64 m2, .int .i64 m3, .int .i64 m4, .int .i64 m5, .int .i64 e1, .int .i64 e2, .int .i64 e3, .int .i64 e4, .string ⟨tx.toArray⟩, .slice A ls.length cp] V2 := by rw [hV2]; exact hHeld.alloc _
      have HNV2 := Lib.hid (show NumsIn V2 (.slice (some ⟨V1.heap.size, 0, none⟩) 4 4) [e1, e2, e3, e4] from by rw [hV2]; exact nums_new V1 [e1, e2, e3, e4] _ 4 rfl)
      have HNV1 := Lib.hid (HNV1.out.below (show Below V1.heap.size V1 V2 from by rw [hV2]; exact (Below.refl _ _).alloc (Nat.le_refl _) _))
      clear hV2
      refine hK.out _ _ hHeld (fun _ => ?_)
      clear hK K
      try simp only [Act.put, List.setIfInBounds_toArray, List.set_cons_zero, List.set_cons_succ, List.getElem_toArray, List.getElem_cons_zero, List.getElem_cons_succ]
      refine wpAnyH_ready (rs := [11]) (by kernel_rfl) (by simp) ?_
      refine (AllReadyH.cons rfl (fun K hK => ?_) AllReadyH.nil)
      rw [if_pos (by rfl)]
      go_wp2_with fail
      refine (wire_numbers _ [m1, m2, m3, m4, m5] _ HNV1.out (by simp) (by simp) HZ1.out).mono ?_
      rintro e w1 ⟨rfl, hb⟩
      replace hHeld := hHeld.below hb
      have HNV2 := Lib.hid (HNV2.out.below hb)
      clear hb
      refine hK.out _ _ hHeld (fun _ => ?_)
      clear hK K
      try simp only [Act.put, List.setIfInBounds_toArray, List.set_cons_zero, List.set_cons_succ, List.getElem_toArray, List.getElem_cons_zero, List.getElem_cons_succ]
      refine wpAnyH_take (i := 12) (v := ?_) rfl (by kernel_rfl) (by kernel_rfl) (by kernel_rfl) (fun _ _ _ h => h) (Or.inl ⟨by rfl, ?_⟩) (by assumption) ?_
      rotate_left
      · intro X hSw
        have hq : ¬ 9223372036854775807 < 1 + (numsB [m1, m2, m3, m4, m5]).length := by omega
        have hq1 := cat1 114 (numsB [m1, m2, m3, m4, m5])
        go_simp
        try with_reducible rfl
      rotate_left
      try simp only [Act.put, List.setIfInBounds_toArray, List.set_cons_zero, List.set_cons_succ, List.getElem_toArray, List.getElem_cons_zero, List.getElem_cons_succ]
      refine wpAnyH_ready (rs := [26]) (by kernel_rfl) (by simp) ?_
      refine (AllReadyH.cons rfl (fun K hK => ?_) AllReadyH.nil)
      rw [if_pos (by rfl)]
      go_wp2_with fail
      refine (wire_numbers _ [e1, e2, e3, e4] _ HNV2.out (by simp) (by simp) HZ2.out).mono ?_
      rintro e w2 ⟨rfl, hb⟩
      replace hHeld := hHeld.below hb
      clear hb
      refine hK.out _ _ hHeld (fun _ => ?_)
      clear hK K
      try simp only [Act.put, List.setIfInBounds_toArray, List.set_cons_zero, List.set_cons_succ, List.getElem_toArray, List.getElem_cons_zero, List.getElem_cons_succ]
      refine wpAnyH_take (i := 27) (v := ?_) rfl (by kernel_rfl) (by kernel_rfl) (by kernel_rfl) (fun _ _ _ h => h) (Or.inl ⟨by rfl, ?_⟩) (by assumption) ?_
      rotate_left
      · intro X hSw
        have hq : ¬ 9223372036854775807 < (numsB [m1, m2, m3, m4, m5]).length + 1 + (numsB [e1, e2, e3, e4]).length := by omega
        go_simp
        try with_reducible rfl
      rotate_left
      try simp only [Act.put, List.setIfInBounds_toArray, List.set_cons_zero, List.set_cons_succ, List.getElem_toArray, List.getElem_cons_zero, List.getElem_cons_succ]
      refine wpAnyH_ready (rs := [31]) (by kernel_rfl) (by simp) ?_
      refine (AllReadyH.cons rfl (fun K hK => ?_) AllReadyH.nil)
      rw [if_pos (by rfl)]
      go_wp2_with fail
      refine (octet_Text tx _ (by omega)).mono ?_
      rintro e w5 ⟨rfl, hb⟩
      replace hHeld := hHeld.below hb
      clear hb
      refine hK.out _ _ hHeld (fun _ => ?_)
      clear hK K
      try simp only [Act.put, List.setIfInBounds_toArray, List.set_cons_zero, List.set_cons_succ, List.getElem_toArray, List.getElem_cons_zero, List.getElem_cons_succ]
      refine wpAnyH_take (i := 32) (v := ?_) rfl (by kernel_rfl) (by kernel_rfl) (by kernel_rfl) (fun _ _ _ h => h) (Or.inl ⟨by rfl, ?_⟩) (by assumption) ?_
      rotate_left
      · intro X hSw
        have hq : ¬ 9223372036854775807 < (numsB [m1, m2, m3, m4, m5]).length + (numsB [e1, e2, e3, e4]).length + 1 + (textB tx).length := by omega
        have hq' : ¬ 9223372036854775807 < (numsB [m1, m2, m3, m4, m5]).length + ((numsB [e1, e2, e3, e4]).length) + 1 + (textB tx).length := by omega
        go_simp
        try with_reducible rfl
      rotate_left
      try simp only [Act.put, List.setIfInBounds_toArray, List.set_cons_zero, List.set_cons_succ, List.getElem_toArray, List.getElem_cons_zero, List.getElem_cons_succ]
      refine wpAnyH_ready (rs := [36]) (by kernel_rfl) (by simp) ?_
      refine (AllReadyH.cons rfl (fun K hK => ?_) AllReadyH.nil)
      rw [if_pos (by rfl)]
      go_wp2_with fail
      refine (octet_List _ ls _ (HR.out _ hHeld.2) HLS.out).mono ?_
      rintro e w6 ⟨rfl, hb⟩
      replace hHeld := hHeld.below hb
      clear hb
      refine hK.out _ _ hHeld (fun _ => ?_)
      clear hK K
      try simp only [Act.put, List.setIfInBounds_toArray, List.set_cons_zero, List.set_cons_succ, List.getElem_toArray, List.getElem_cons_zero, List.getElem_cons_succ]
      refine wpAnyH_take (i := 37) (v := ?_) rfl (by kernel_rfl) (by kernel_rfl) (by kernel_rfl) (fun _ _ _ h => h) (Or.inl ⟨by rfl, ?_⟩) (by assumption) ?_
      rotate_left
      · intro X hSw
        have hq : ¬ 9223372036854775807 < (numsB [m1, m2, m3, m4, m5]).length + ((numsB [e1, e2, e3, e4]).length + (textB tx).length) + 1 + (listB ls).length := by omega
        go_simp
        try with_reducible rfl
      rotate_left
      try simp only [Act.put, List.setIfInBounds_toArray, List.set_cons_zero, List.set_cons_succ, List.getElem_toArray, List.getElem_cons_zero, List.getElem_cons_succ]
      refine wpAnyH_ready (rs := [38]) (by kernel_rfl) (by simp) ?_
      refine (AllReadyH.cons rfl (fun K hK => ?_) AllReadyH.nil)
      rw [if_pos (by rfl)]
      go_wp2_with fail
      refine (seal_Put (114 :: (numsB [m1, m2, m3, m4, m5] ++ (numsB [e1, e2, e3, e4] ++ (textB tx ++ listB ls)))) _ (by simp only [List.length_cons, List.length_append]; omega)).mono ?_
      rintro e w7 ⟨rfl, hb⟩
      replace hHeld := hHeld.below hb
      clear hb
      refine hK.out _ _ hHeld (fun _ => ?_)
      clear hK K
      try simp only [Act.put, List.setIfInBounds_toArray, List.set_cons_zero, List.set_cons_succ, List.getElem_toArray, List.getElem_cons_zero, List.getElem_cons_succ]
      refine wpAnyH_take (i := 39) (v := ?_) rfl (by kernel_rfl) (by kernel_rfl) (by kernel_rfl) (fun _ _ _ h => h) (Or.inl ⟨by rfl, ?_⟩) (by assumption) ?_
      rotate_left
      · intro X hSw
        go_simp
        try with_reducible rfl
      rotate_left
      try simp only [Act.put, List.setIfInBounds_toArray, List.set_cons_zero, List.set_cons_succ, List.getElem_toArray, List.getElem_cons_zero, List.getElem_cons_succ]
      refine wpAnyH_done (by kernel_rfl) ?_ _
      go_wp2_with fail
      go_ret
      exact ⟨by rw [HB.out]; rfl, hHeld.2⟩
  · rw [if_pos (by rfl)]
    go_wp2_with fail
    obtain ⟨V2, hV2⟩ : ∃ V2, V2 = (W0.alloc (.cells #[.int .i64 e1, .int .i64 e2, .int .i64 e3, .int .i64 e4] 3)).drew := ⟨_, rfl⟩
    rw [← hV2]
    replace hHeld : BoxB w (w.heap.size) 31 #[.int .i64 m1, .int .i64 m2, .int .i64 m3, .int .i64 m4, .int .i64 m5, .int .i64 e1, .int .i64 e2, .int .i64 e3, .int .i64 e4, .string ⟨tx.toArray⟩, .slice A ls.length cp] V2 := by rw [hV2]; exact (hbx.alloc _).drew
    have HNV2 := Lib.hid (show NumsIn V2 (.slice (some ⟨W0.heap.size, 0, none⟩) 4 4) [e1, e2, e3, e4] from by rw [hV2]; exact Sl.same (nums_new W0 [e1, e2, e3, e4] _ 4 rfl) rfl)
    clear hV2
    refine hK.out _ _ hHeld (fun _ => ?_)
    clear hK K
    try simp only [Act.put, List.setIfInBounds_toArray, List.set_cons_zero, List.set_cons_succ, List.getElem_toArray, List.getElem_cons_zero, List.getElem_cons_succ]
    refine wpAnyH_ready (rs := [10]) (by kernel_rfl) (by simp) ?_
    refine (AllReadyH.cons rfl (fun K hK => ?_) AllReadyH.nil)
    rw [if_pos (by rfl)]
    go_wp2_with fail
    obtain ⟨V1, hV1⟩ : ∃ V1, V1 = V2.alloc (.cells #[.int .i64 m1, .int .i64 m2, .int .i64 m3, .int .i64 m4, .int .i64 m5] 3) := ⟨_, rfl⟩
    rw [← hV1]
    replace hHeld : BoxB w (w.heap.size) 31 #[.int .i64 m1, .int .i64 m2, .int .i64 m3, .int .i64 m4, .int .i64 m5, .int .i64 e1, .int .i64 e2, .int .i64 e3, .int .i64 e4, .string ⟨tx.toArray⟩, .slice A ls.length cp] V1 := by rw [hV1]; exact hHeld.alloc _
    have HNV1 := Lib.hid (show NumsIn V1 (.slice (some ⟨V2.heap.size, 0, none⟩) 5 5) [m1, m2, m3, m4, m5] from by rw [hV1]; exact nums_new V2 [m1, m2, m3, m4, m5] _ 5 rfl)
    have HNV2 := Lib.hid (HNV2.out.below (show Below V2.heap.size V2 V1 from by rw [hV1]; exact (Below.refl _ _).alloc (Nat.le_refl _) _))
    clear hV1
    refine hK.out _ _ hHeld (fun _ => ?_)
    clear hK K
    try simp only [Act.put, List.setIfInBounds_toArray, List.set_cons_zero, List.set_cons_succ, List.getElem_toArray, List.getElem_cons_zero, List.getElem_cons_succ]
    refine wpAnyH_ready (rs := [11]) (by kernel_rfl) (by simp) ?_
    refine (AllReadyH.cons rfl (fun K hK => ?_) AllReadyH.nil)
    rw [if_pos (by rfl)]
    go_wp2_with fail
    refine (wire_numbers _ [m1, m2, m3, m4, m5] _ HNV1.out (by simp) (by simp) HZ1.out).mono ?_
    rintro e w1 ⟨rfl, hb⟩
    replace hHeld := hHeld.below hb
    have HNV2 := Lib.hid (HNV2.out.below hb)
    clear hb
    refine hK.out _ _ hHeld (fun _ => ?_)
    clear hK K
    try simp only [Act.put, List.setIfInBounds_toArray, List.set_cons_zero, List.set_cons_succ, List.getElem_toArray, List.getElem_cons_zero, List.getElem_cons_succ]
    refine wpAnyH_take (i := 12) (v := ?_) rfl (by kernel_rfl) (by kernel_rfl) (by kernel_rfl) (fun _ _ _ h => h) (Or.inl ⟨by rfl, ?_⟩) (by assumption) ?_
    rotate_left
    · intro X hSw
      have hq : ¬ 9223372036854775807 < 1 + (numsB [m1, m2, m3, m4, m5]).length := by omega
      have hq1 := cat1 114 (numsB [m1, m2, m3, m4, m5])
      go_simp
      try with_reducible rfl
    rotate_left
    try simp only [Act.put, List.setIfInBounds_toArray, List.set_cons_zero, List.set_cons_succ, List.getElem_toArray, List.getElem_cons_zero, List.getElem_cons_succ]
    refine wpAnyH_ready (rs := [26]) (by kernel_rfl) (by simp) ?_
    refine (AllReadyH.cons rfl (fun K hK => ?_) AllReadyH.nil)
    rw [if_pos (by rfl)]
    go_wp2_with fail
    refine (wire_numbers _ [e1, e2, e3, e4] _ HNV2.out (by simp) (by simp) HZ2.out).mono ?_
    rintro e w2 ⟨rfl, hb⟩
    replace hHeld := hHeld.below hb
    clear hb
    refine hK.out _ _ hHeld (fun _ => ?_)
    clear hK K
    try simp only [Act.put, List.setIfInBounds_toArray, List.set_cons_zero, List.set_cons_succ, List.getElem_toArray, List.getElem_cons_zero, List.getElem_cons_succ]
    refine wpAnyH_take (i := 27) (v := ?_) rfl (by kernel_rfl) (by kernel_rfl) (by kernel_rfl) (fun _ _ _ h => h) (Or.inl ⟨by rfl, ?_⟩) (by assumption) ?_
    rotate_left
    · intro X hSw
      have hq : ¬ 9223372036854775807 < (numsB [m1, m2, m3, m4, m5]).length + 1 + (numsB [e1, e2, e3, e4]).length := by omega
      go_simp
      try with_reducible rfl
    rotate_left
    try simp only [Act.put, List.setIfInBounds_toArray, List.set_cons_zero, List.set_cons_succ, List.getElem_toArray, List.getElem_cons_zero, List.getElem_cons_succ]
    refine wpAnyH_ready (rs := [31]) (by kernel_rfl) (by simp) ?_
    refine (AllReadyH.cons rfl (fun K hK => ?_) AllReadyH.nil)
    rw [if_pos (by rfl)]
    go_wp2_with fail
    refine (octet_Text tx _ (by omega)).mono ?_
    rintro e w5 ⟨rfl, hb⟩
    replace hHeld := hHeld.below hb
    clear hb
    refine hK.out _ _ hHeld (fun _ => ?_)
    clear hK K
    try simp only [Act.put, List.setIfInBounds_toArray, List.set_cons_zero, List.set_cons_succ, List.getElem_toArray, List.getElem_cons_zero, List.getElem_cons_succ]
    refine wpAnyH_take (i := 32) (v := ?_) rfl (by kernel_rfl) (by kernel_rfl) (by kernel_rfl) (fun _ _ _ h => h) (Or.inl ⟨by rfl, ?_⟩) (by assumption) ?_
    rotate_left
    · intro X hSw
      have hq : ¬ 9223372036854775807 < (numsB [m1, m2, m3, m4, m5]).length + (numsB [e1, e2, e3, e4]).length + 1 + (textB tx).length := by omega
      have hq' : ¬ 9223372036854775807 < (numsB [m1, m2, m3, m4, m5]).length + ((numsB [e1, e2, e3, e4]).length) + 1 + (textB tx).length := by omega
      go_simp
      try with_reducible rfl
    rotate_left
    try simp only [Act.put, List.setIfInBounds_toArray, List.set_cons_zero, List.set_cons_succ, List.getElem_toArray, List.getElem_cons_zero, List.getElem_cons_succ]
    refine wpAnyH_ready (rs := [36]) (by kernel_rfl) (by simp) ?_
    refine (AllReadyH.cons rfl (fun K hK => ?_) AllReadyH.nil)
    rw [if_pos (by rfl)]
    go_wp2_with fail
    refine (octet_List _ ls _ (HR.out _ hHeld.2) HLS.out).mono ?_
    rintro e w6 ⟨rfl, hb⟩
    replace hHeld := hHeld.below hb
    clear hb
    refine hK.out _ _ hHeld (fun _ => ?_)
    clear hK K
    try simp only [Act.put, List.setIfInBounds_toArray, List.set_cons_zero, List.set_cons_succ, List.getElem_toArray, List.getElem_cons_zero, List.getElem_cons_succ]
    refine wpAnyH_take (i := 37) (v := ?_) rfl (by kernel_rfl) (by kernel_rfl) (by kernel_rfl) (fun _ _ _ h => h) (Or.inl ⟨by rfl, ?_⟩) (by assumption) ?_
    rotate_left
    · intro X hSw
      have hq : ¬ 9223372036854775807 < (numsB [m1, m2, m3, m4, m5]).length + ((numsB [e1, e2, e3, e4]).length + (textB tx).length) + 1 + (listB ls).length := by omega
      go_simp
      try with_reducible rfl
    rotate_left
    try simp only [Act.put, List.setIfInBounds_toArray, List.set_cons_zero, List.set_cons_succ, List.getElem_toArray, List.getElem_cons_zero, List.getElem_cons_succ]
    refine wpAnyH_ready (rs := [38]) (by kernel_rfl) (by simp) ?_
    refine (AllReadyH.cons rfl (fun K hK => ?_) AllReadyH.nil)
    rw [if_pos (by rfl)]
    go_wp2_with fail
    refine (seal_Put (114 :: (numsB [m1, m2, m3, m4, m5] ++ (numsB [e1, e2, e3, e4] ++ (textB tx ++ listB ls)))) _ (by simp only [List.length_cons, List.length_append]; omega)).mono ?_
    rintro e w7 ⟨rfl, hb⟩
    replace hHeld := hHeld.below hb
    clear hb
    refine hK.out _ _ hHeld (fun _ => ?_)
    clear hK K
    try simp only [Act.put, List.setIfInBounds_toArray, List.set_cons_zero, List.set_cons_succ, List.getElem_toArray, List.getElem_cons_zero, List.getElem_cons_succ]
    refine wpAnyH_take (i := 39) (v := ?_) rfl (by kernel_rfl) (by kernel_rfl) (by kernel_rfl) (fun _ _ _ h => h) (Or.inl ⟨by rfl, ?_⟩) (by assumption) ?_
    rotate_left
    · intro X hSw
      go_simp
      try with_reducible rfl
    rotate_left
    try simp only [Act.put, List.setIfInBounds_toArray, List.set_cons_zero, List.set_cons_succ, List.getElem_toArray, List.getElem_cons_zero, List.getElem_cons_succ]
    refine wpAnyH_done (by kernel_rfl) ?_ _
    go_wp2_with fail
    go_ret
    exact ⟨by rw [HB.out]; rfl, hHeld.2⟩
end Go.Proofs.Ytpojhcpkmpbflaa
