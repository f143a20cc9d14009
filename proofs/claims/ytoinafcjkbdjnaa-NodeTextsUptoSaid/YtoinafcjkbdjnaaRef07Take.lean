/- copyholdref07.Take: it answers as the document says, for every text; old memory is as it was. -/
import Derived.Test.YtoinafcjkbdjnaaRef07
set_option linter.unusedVariables false
set_option linter.unusedSimpArgs false
namespace Go.Proofs.Ytoinafcjkbdjnaa
open Go.RowKit Copyhold Copyhold.Name

theorem set5_below0 {B : Nat} {a V : World} (h : Below B a V) (x0 x1 x2 x3 x4 : Value) : Below B a (set5 V B x0 x1 x2 x3 x4) :=
  (((((h.setCell (p := ⟨B, 0, none⟩) (Nat.le_refl _) _).setCell (p := ⟨B, 1, none⟩) (Nat.le_refl _) _).setCell (p := ⟨B, 2, none⟩) (Nat.le_refl _) _).setCell (p := ⟨B, 3, none⟩) (Nat.le_refl _) _).setCell (p := ⟨B, 4, none⟩) (Nat.le_refl _) _)

theorem set5_far0 (V : World) (g b : Nat) (x0 x1 x2 x3 x4 : Value) (h : b ≠ g) : (set5 V g x0 x1 x2 x3 x4).heap[b]? = V.heap[b]? := by
  unfold set5
  rw [heap_setCell_far _ _ _ _ h, heap_setCell_far _ _ _ _ h, heap_setCell_far _ _ _ _ h, heap_setCell_far _ _ _ _ h, heap_setCell_far _ _ _ _ h]
theorem set5_size0 (V : World) (g : Nat) (x0 x1 x2 x3 x4 : Value) : V.heap.size ≤ (set5 V g x0 x1 x2 x3 x4).heap.size := by
  unfold set5
  simp

/-- in the loop: k entries were taken -/
structure RtLoop (w : World) (l : List UInt8) (X : Nat) (ino kind links : Int) (text : List UInt8) (m : Nat) (s0 : List UInt8) (k : Nat) (acc : List Ent) (s : List UInt8) (sv : Value) (wr : World) : Prop where
  le : k ≤ m
  len : acc.length = k
  r : TBox wr w.heap.size 24 (ndC nd0 (.slice none 0 0))
  t : TBox wr X 24 #[.int .i64 ino, .int .i64 kind, .int .i64 links, .string ⟨text.toArray⟩, sv]
  own : wr.ownsRow (X + 1) 39 2 sv k (acc.flatMap entC)
  go : takeEs (m - k) acc s = takeEs m [] s0
  b : Below w.heap.size w wr
  sl : s.length ≤ l.length
  ok : ∀ x ∈ acc, EntT x

set_option maxRecDepth 100000 in
set_option maxHeartbeats 16000000 in
theorem ref07_Take (l : List UInt8) (w : World) (hl : l.length ≤ 140737488351232) :
    Calls Try.prog 12 #[.string ⟨l.toArray⟩] w (TakeIs w (takeNode l)) := by
  have hN : takeNode l = thenP nd0 (takeWhole l) fun ino s => thenP nd0 (takeWhole s) fun kind s => thenP nd0 (takeWhole s) fun links s => thenP nd0 (takeText s 4096) fun text s => thenP nd0 (takeCount s 256) fun m s => thenP nd0 (takeEs m [] s) fun l s => endN ⟨ino, kind, links, text, l⟩ s := rfl
  have HN0 := Lib.hid hN
  obtain ⟨W0, hW0⟩ : ∃ W0, W0 = w.alloc (.cells #[.int .i64 0, .int .i64 0, .int .i64 0, .string ⟨#[]⟩, .slice none 0 0] 24) := ⟨_, rfl⟩
  have hb0 : Below w.heap.size w W0 := by rw [hW0]; exact (Below.refl _ _).alloc (Nat.le_refl _) _
  have r0 : TBox W0 w.heap.size 24 (ndC nd0 (.slice none 0 0)) := by rw [hW0]; exact TBox.new _ _ _
  have HR0 := Lib.hid r0
  have HB0 := Lib.hid hb0
  have HW := Lib.hid hW0
  clear hN hW0 hb0 r0
  go_enter Try.func12, Try.ntmps12
  go_wp2_with fail
  rw [← HW.out]
  have bd0 := takeWhole_bd l
  have HC0 := Lib.hid (fun W => ref07_Whole l W (by omega))
  have HP0 := HN0.out
  generalize takeWhole l = x0 at *
  obtain ⟨ino, s1, e1⟩ := x0
  simp only at HC0 HP0 bd0
  have BD0 := Lib.hid bd0
  have HQ0 := Lib.hid HP0
  have hs0 : s1.length ≤ 140737488351232 := by omega
  clear HP0 bd0
  refine (HC0.out _).mono ?_
  rintro ee w1 ⟨rfl, hb1⟩
  have HR1 := Lib.hid (HR0.out.below hb1)
  have HB1 := Lib.hid (below_trans HB0.out hb1 HB0.out.size)
  clear hb1
  by_cases he1 : e1 = 0
  rotate_left
  · have hne : (e1 == 0) = false := by simpa using he1
    have hne2 : (e1 != 0) = true := by simpa using he1
    have HNE := Lib.hid he1
    clear he1
    have g0 : w1.cell? ⟨w.heap.size, 0, none⟩ = some (.int .i64 0) := HR1.out.cell 0
    have g1 : w1.cell? ⟨w.heap.size, 1, none⟩ = some (.int .i64 0) := HR1.out.cell 1
    have g2 : w1.cell? ⟨w.heap.size, 2, none⟩ = some (.int .i64 0) := HR1.out.cell 2
    have g3 : w1.cell? ⟨w.heap.size, 3, none⟩ = some (.string ⟨#[]⟩) := HR1.out.cell 3
    have g4 : w1.cell? ⟨w.heap.size, 4, none⟩ = some (.slice none 0 0) := HR1.out.cell 4
    have f0 := HR1.out.free 0
    have f1 := HR1.out.free 1
    have f2 := HR1.out.free 2
    have f3 := HR1.out.free 3
    have f4 := HR1.out.free 4
    have HTT := Lib.hid (show takeNode l = (nd0, [], e1) from by rw [HQ0.out]; exact thenP_no HNE.out)
    go_wp2_with fail
    refine bodyPost_ret (v := .tuple #[.agg #[.int .i64 0, .int .i64 0, .int .i64 0, .string ⟨#[]⟩, .slice none 0 0], .string ⟨#[]⟩, .int .i64 e1]) (by simp [results, Try.results12, go_sem, g0, g1, g2, g3, g4]) rfl ⟨_, by rw [HTT.out] <;> rfl, ⟨none, 0, by rw [HTT.out] <;> rfl, by rw [HTT.out]; exact Ents.nil _⟩, set5_below0 HB1.out _ _ _ _ _⟩
  subst he1
  have HN1 := Lib.hid (HQ0.out.trans (thenP_ok rfl))
  simp only at HN1
  clear HQ0
  have bd1 := takeWhole_bd s1
  have HC1 := Lib.hid (fun W => ref07_Whole s1 W (by omega))
  have HP1 := HN1.out
  generalize takeWhole s1 = x1 at *
  obtain ⟨kind, s2, e2⟩ := x1
  simp only at HC1 HP1 bd1
  have BD1 := Lib.hid bd1
  have HQ1 := Lib.hid HP1
  have hs1 : s2.length ≤ 140737488351232 := by omega
  clear HP1 bd1
  go_wp2_with fail
  refine (HC1.out _).mono ?_
  rintro ee w2 ⟨rfl, hb2⟩
  have HR2 := Lib.hid (HR1.out.below hb2)
  have HB2 := Lib.hid (below_trans HB1.out hb2 HB1.out.size)
  clear hb2
  by_cases he2 : e2 = 0
  rotate_left
  · have hne : (e2 == 0) = false := by simpa using he2
    have hne2 : (e2 != 0) = true := by simpa using he2
    have HNE := Lib.hid he2
    clear he2
    have g0 : w2.cell? ⟨w.heap.size, 0, none⟩ = some (.int .i64 0) := HR2.out.cell 0
    have g1 : w2.cell? ⟨w.heap.size, 1, none⟩ = some (.int .i64 0) := HR2.out.cell 1
    have g2 : w2.cell? ⟨w.heap.size, 2, none⟩ = some (.int .i64 0) := HR2.out.cell 2
    have g3 : w2.cell? ⟨w.heap.size, 3, none⟩ = some (.string ⟨#[]⟩) := HR2.out.cell 3
    have g4 : w2.cell? ⟨w.heap.size, 4, none⟩ = some (.slice none 0 0) := HR2.out.cell 4
    have f0 := HR2.out.free 0
    have f1 := HR2.out.free 1
    have f2 := HR2.out.free 2
    have f3 := HR2.out.free 3
    have f4 := HR2.out.free 4
    have HTT := Lib.hid (show takeNode l = (nd0, [], e2) from by rw [HQ1.out]; exact thenP_no HNE.out)
    go_wp2_with fail
    refine bodyPost_ret (v := .tuple #[.agg #[.int .i64 0, .int .i64 0, .int .i64 0, .string ⟨#[]⟩, .slice none 0 0], .string ⟨#[]⟩, .int .i64 e2]) (by simp [results, Try.results12, go_sem, g0, g1, g2, g3, g4]) rfl ⟨_, by rw [HTT.out] <;> rfl, ⟨none, 0, by rw [HTT.out] <;> rfl, by rw [HTT.out]; exact Ents.nil _⟩, set5_below0 HB2.out _ _ _ _ _⟩
  subst he2
  have HN2 := Lib.hid (HQ1.out.trans (thenP_ok rfl))
  simp only at HN2
  clear HQ1
  have bd2 := takeWhole_bd s2
  have HC2 := Lib.hid (fun W => ref07_Whole s2 W (by omega))
  have HP2 := HN2.out
  generalize takeWhole s2 = x2 at *
  obtain ⟨links, s3, e3⟩ := x2
  simp only at HC2 HP2 bd2
  have BD2 := Lib.hid bd2
  have HQ2 := Lib.hid HP2
  have hs2 : s3.length ≤ 140737488351232 := by omega
  clear HP2 bd2
  go_wp2_with fail
  refine (HC2.out _).mono ?_
  rintro ee w3 ⟨rfl, hb3⟩
  have HR3 := Lib.hid (HR2.out.below hb3)
  have HB3 := Lib.hid (below_trans HB2.out hb3 HB2.out.size)
  clear hb3
  by_cases he3 : e3 = 0
  rotate_left
  · have hne : (e3 == 0) = false := by simpa using he3
    have hne2 : (e3 != 0) = true := by simpa using he3
    have HNE := Lib.hid he3
    clear he3
    have g0 : w3.cell? ⟨w.heap.size, 0, none⟩ = some (.int .i64 0) := HR3.out.cell 0
    have g1 : w3.cell? ⟨w.heap.size, 1, none⟩ = some (.int .i64 0) := HR3.out.cell 1
    have g2 : w3.cell? ⟨w.heap.size, 2, none⟩ = some (.int .i64 0) := HR3.out.cell 2
    have g3 : w3.cell? ⟨w.heap.size, 3, none⟩ = some (.string ⟨#[]⟩) := HR3.out.cell 3
    have g4 : w3.cell? ⟨w.heap.size, 4, none⟩ = some (.slice none 0 0) := HR3.out.cell 4
    have f0 := HR3.out.free 0
    have f1 := HR3.out.free 1
    have f2 := HR3.out.free 2
    have f3 := HR3.out.free 3
    have f4 := HR3.out.free 4
    have HTT := Lib.hid (show takeNode l = (nd0, [], e3) from by rw [HQ2.out]; exact thenP_no HNE.out)
    go_wp2_with fail
    refine bodyPost_ret (v := .tuple #[.agg #[.int .i64 0, .int .i64 0, .int .i64 0, .string ⟨#[]⟩, .slice none 0 0], .string ⟨#[]⟩, .int .i64 e3]) (by simp [results, Try.results12, go_sem, g0, g1, g2, g3, g4]) rfl ⟨_, by rw [HTT.out] <;> rfl, ⟨none, 0, by rw [HTT.out] <;> rfl, by rw [HTT.out]; exact Ents.nil _⟩, set5_below0 HB3.out _ _ _ _ _⟩
  subst he3
  have HN3 := Lib.hid (HQ2.out.trans (thenP_ok rfl))
  simp only at HN3
  clear HQ2
  have bd3 := takeText_bd s3 4096
  have HC3 := Lib.hid (fun W => ref_TakeText s3 4096 W (by omega) (by decide) (by decide))
  have HP3 := HN3.out
  generalize takeText s3 4096 = x3 at *
  obtain ⟨text, s4, e4⟩ := x3
  simp only at HC3 HP3 bd3
  have BD3 := Lib.hid bd3
  have HQ3 := Lib.hid HP3
  have hs3 : s4.length ≤ 140737488351232 := by omega
  clear HP3 bd3
  go_wp2_with fail
  refine (HC3.out _).mono ?_
  rintro ee w4 ⟨rfl, hb4⟩
  have HR4 := Lib.hid (HR3.out.below hb4)
  have HB4 := Lib.hid (below_trans HB3.out hb4 HB3.out.size)
  clear hb4
  by_cases he4 : e4 = 0
  rotate_left
  · have hne : (e4 == 0) = false := by simpa using he4
    have hne2 : (e4 != 0) = true := by simpa using he4
    have HNE := Lib.hid he4
    clear he4
    have g0 : w4.cell? ⟨w.heap.size, 0, none⟩ = some (.int .i64 0) := HR4.out.cell 0
    have g1 : w4.cell? ⟨w.heap.size, 1, none⟩ = some (.int .i64 0) := HR4.out.cell 1
    have g2 : w4.cell? ⟨w.heap.size, 2, none⟩ = some (.int .i64 0) := HR4.out.cell 2
    have g3 : w4.cell? ⟨w.heap.size, 3, none⟩ = some (.string ⟨#[]⟩) := HR4.out.cell 3
    have g4 : w4.cell? ⟨w.heap.size, 4, none⟩ = some (.slice none 0 0) := HR4.out.cell 4
    have f0 := HR4.out.free 0
    have f1 := HR4.out.free 1
    have f2 := HR4.out.free 2
    have f3 := HR4.out.free 3
    have f4 := HR4.out.free 4
    have HTT := Lib.hid (show takeNode l = (nd0, [], e4) from by rw [HQ3.out]; exact thenP_no HNE.out)
    go_wp2_with fail
    refine bodyPost_ret (v := .tuple #[.agg #[.int .i64 0, .int .i64 0, .int .i64 0, .string ⟨#[]⟩, .slice none 0 0], .string ⟨#[]⟩, .int .i64 e4]) (by simp [results, Try.results12, go_sem, g0, g1, g2, g3, g4]) rfl ⟨_, by rw [HTT.out] <;> rfl, ⟨none, 0, by rw [HTT.out] <;> rfl, by rw [HTT.out]; exact Ents.nil _⟩, set5_below0 HB4.out _ _ _ _ _⟩
  subst he4
  have HN4 := Lib.hid (HQ3.out.trans (thenP_ok rfl))
  simp only at HN4
  clear HQ3
  have bd4 := takeNum_bd s4
  have HC4 := Lib.hid (fun W => ref_TakeNum s4 W (by omega))
  have hcn : takeCount s4 256 = if (takeNum s4).2.2 ≠ 0 then (0, [], (takeNum s4).2.2) else if (256 : Int) < 0 ∨ (256 : Int) < ((takeNum s4).1 : Int) then (0, [], 5) else takeNum s4 := rfl
  have HCN := Lib.hid hcn
  clear hcn
  generalize takeNum s4 = x4 at *
  obtain ⟨m, s5, e5⟩ := x4
  simp only at HC4 HCN bd4
  have BD4 := Lib.hid bd4
  have hs5 : s5.length ≤ 140737488351232 := by omega
  clear bd4
  obtain ⟨mz, hmz⟩ : ∃ mz : Int, mz = (m : Int) := ⟨_, rfl⟩
  have hmz0 : 0 ≤ mz := by omega
  have hmz1 : mz ≤ 18446744073709551615 := by have := BD4.out.1; omega
  simp only [← hmz] at HC4
  have HMZ := Lib.hid hmz
  go_wp2_with fail
  refine (HC4.out _).mono ?_
  rintro ee w5 ⟨rfl, hb5⟩
  have HR5 := Lib.hid (HR4.out.below hb5)
  have HB5 := Lib.hid (below_trans HB4.out hb5 HB4.out.size)
  clear hb5
  by_cases he5 : e5 = 0
  rotate_left
  · have hne : (e5 == 0) = false := by simpa using he5
    have hne2 : (e5 != 0) = true := by simpa using he5
    have HNE := Lib.hid he5
    clear he5 hmz
    have g0 : w5.cell? ⟨w.heap.size, 0, none⟩ = some (.int .i64 0) := HR5.out.cell 0
    have g1 : w5.cell? ⟨w.heap.size, 1, none⟩ = some (.int .i64 0) := HR5.out.cell 1
    have g2 : w5.cell? ⟨w.heap.size, 2, none⟩ = some (.int .i64 0) := HR5.out.cell 2
    have g3 : w5.cell? ⟨w.heap.size, 3, none⟩ = some (.string ⟨#[]⟩) := HR5.out.cell 3
    have g4 : w5.cell? ⟨w.heap.size, 4, none⟩ = some (.slice none 0 0) := HR5.out.cell 4
    have f0 := HR5.out.free 0
    have f1 := HR5.out.free 1
    have f2 := HR5.out.free 2
    have f3 := HR5.out.free 3
    have f4 := HR5.out.free 4
    have HTT := Lib.hid (show takeNode l = (nd0, [], e5) from by rw [HN4.out, HCN.out, if_pos HNE.out]; exact thenP_no HNE.out)
    go_wp2_with fail
    refine bodyPost_ret (v := .tuple #[.agg #[.int .i64 0, .int .i64 0, .int .i64 0, .string ⟨#[]⟩, .slice none 0 0], .string ⟨#[]⟩, .int .i64 e5]) (by simp [results, Try.results12, go_sem, g0, g1, g2, g3, g4]) rfl ⟨_, by rw [HTT.out] <;> rfl, ⟨none, 0, by rw [HTT.out] <;> rfl, by rw [HTT.out]; exact Ents.nil _⟩, set5_below0 HB5.out _ _ _ _ _⟩
  subst he5
  by_cases hm : 256 < m
  · have hmd : 256 < mz := by omega
    clear hm hmz
    have g0 : w5.cell? ⟨w.heap.size, 0, none⟩ = some (.int .i64 0) := HR5.out.cell 0
    have g1 : w5.cell? ⟨w.heap.size, 1, none⟩ = some (.int .i64 0) := HR5.out.cell 1
    have g2 : w5.cell? ⟨w.heap.size, 2, none⟩ = some (.int .i64 0) := HR5.out.cell 2
    have g3 : w5.cell? ⟨w.heap.size, 3, none⟩ = some (.string ⟨#[]⟩) := HR5.out.cell 3
    have g4 : w5.cell? ⟨w.heap.size, 4, none⟩ = some (.slice none 0 0) := HR5.out.cell 4
    have f0 := HR5.out.free 0
    have f1 := HR5.out.free 1
    have f2 := HR5.out.free 2
    have f3 := HR5.out.free 3
    have f4 := HR5.out.free 4
    have HTT := Lib.hid (show takeNode l = (nd0, [], 5) from by rw [HN4.out, HCN.out, if_neg (by simp), if_pos (.inr (by have := HMZ.out; omega))]; exact thenP_no (by decide))
    go_wp2_with fail
    refine bodyPost_ret (v := .tuple #[.agg #[.int .i64 0, .int .i64 0, .int .i64 0, .string ⟨#[]⟩, .slice none 0 0], .string ⟨#[]⟩, .int .i64 5]) (by simp [results, Try.results12, go_sem, g0, g1, g2, g3, g4]) rfl ⟨_, by rw [HTT.out] <;> rfl, ⟨none, 0, by rw [HTT.out] <;> rfl, by rw [HTT.out]; exact Ents.nil _⟩, set5_below0 HB5.out _ _ _ _ _⟩
  have hm256 : m ≤ 256 := by omega
  subst hmz
  have HN5 := Lib.hid (show takeNode l = thenP nd0 (takeEs m [] s5) (fun l s => endN ⟨ino, kind, links, text, l⟩ s) from by rw [HN4.out, HCN.out, if_neg (by simp), if_neg (by omega)]; exact thenP_ok rfl)
  clear hm HC0 HC1 HC2 HC3 HC4 HN0 HN1 HN2 HN3 HN4 HCN HMZ hmz0 hmz1
  obtain ⟨W6, hW6⟩ : ∃ W6, W6 = w5.alloc (.cells #[.int .i64 ino, .int .i64 kind, .int .i64 links, .string ⟨text.toArray⟩, .slice none 0 0] 24) := ⟨_, rfl⟩
  have b56 : Below w5.heap.size w5 W6 := by rw [hW6]; exact (Below.refl _ _).alloc (Nat.le_refl _) _
  have t6 : TBox W6 w5.heap.size 24 #[.int .i64 ino, .int .i64 kind, .int .i64 links, .string ⟨text.toArray⟩, .slice none 0 0] := by rw [hW6]; exact TBox.new _ _ _
  have HT6 := Lib.hid t6
  have HR6 := Lib.hid (HR5.out.below b56)
  have HB6 := Lib.hid (below_trans HB5.out b56 HB5.out.size)
  have hRX := HR5.out.lt
  have HLS := Lib.hid (And.intro BD0.out (And.intro BD1.out (And.intro BD2.out (And.intro BD3.out BD4.out))))
  have HW6 := Lib.hid hW6
  clear b56 t6 hW6 BD0 BD1 BD2 BD3 BD4
  obtain ⟨X, hX⟩ : ∃ X, X = w5.heap.size := ⟨_, rfl⟩
  rw [← hX] at HT6 hRX
  have HX := Lib.hid hX
  clear hX
  go_wp2_with fail
  rw [← HW6.out]
  try rw [← HX.out]
  go_loopw [0, 16] (fun ss si wr => ∃ (k : Nat) (acc : List Ent) (s : List UInt8) (sv : Value), si = .int .u64 k ∧ ss = .string ⟨s.toArray⟩ ∧ RtLoop w l X ino kind links text m s5 k acc s sv wr) (fun _ si _ => m - (intOf si).toNat)
  case atStart => exact ⟨0, [], s5, .slice none 0 0, rfl, rfl, Nat.zero_le _, rfl, HR6.out, HT6.out, World.ownsRow_nil _ _ _ _, rfl, HB6.out, by have := HLS.out; omega, fun x hx => (by cases hx)⟩
  case round =>
    obtain ⟨k, acc, s, sv, rfl, rfl, hrel⟩ := hrel
    have HRL := Lib.hid hrel
    have hkm := hrel.le
    have hsl := hrel.sl
    have hwr : X < wr.heap.size := hrel.t.lt
    clear hrel
    by_cases hlt : k < m
    · have hst : takeEs (m - k - 1 + 1) acc s = thenP [] (takeText s 32) fun nm s => thenP [] (takeWhole s) fun k' s => takeEs (m - k - 1) (acc ++ [(nm, k')]) s := rfl
      rw [show m - k - 1 + 1 = m - k from by omega, HRL.out.go] at hst
      have HTX := Lib.hid (fun W => ref_TakeText s 32 W (by omega) (by decide) (by decide))
      have tb := takeText_bd s 32
      have tl := fun h => (takeText_laid s 32 h).2
      have HST := Lib.hid hst
      have HTL := Lib.hid tl
      clear hst tl
      have HS2 := HST.out
      have HL2 := HTL.out
      generalize takeText s 32 = y at *
      obtain ⟨nm, s6, e6⟩ := y
      simp only at HTX tb HS2 HL2
      have HST2 := Lib.hid HS2
      have HTL2 := Lib.hid HL2
      have hs6 : s6.length ≤ 140737488351232 := by omega
      have HTB := Lib.hid tb
      clear HS2 HL2 tb HST HTL
      have HWH := Lib.hid (fun W => ref07_Whole s6 W (by omega))
      have wb := takeWhole_bd s6
      go_wp2_with fail
      refine (HTX.out _).mono ?_
      rintro ee w7 ⟨rfl, hb7⟩
      have HR7 := Lib.hid (HRL.out.r.below hb7)
      have HT7 := Lib.hid (HRL.out.t.below hb7)
      have HO7 := Lib.hid (owns_below HRL.out.own hb7)
      have HB7 := Lib.hid (below_trans HRL.out.b hb7 HRL.out.b.size)
      clear hb7
      by_cases he6 : e6 = 0
      rotate_left
      · have hne : (e6 == 0) = false := by simpa using he6
        have hne2 : (e6 != 0) = true := by simpa using he6
        have HNE := Lib.hid he6
        clear he6 wb
        have g0 : w7.cell? ⟨w.heap.size, 0, none⟩ = some (.int .i64 0) := HR7.out.cell 0
        have g1 : w7.cell? ⟨w.heap.size, 1, none⟩ = some (.int .i64 0) := HR7.out.cell 1
        have g2 : w7.cell? ⟨w.heap.size, 2, none⟩ = some (.int .i64 0) := HR7.out.cell 2
        have g3 : w7.cell? ⟨w.heap.size, 3, none⟩ = some (.string ⟨#[]⟩) := HR7.out.cell 3
        have g4 : w7.cell? ⟨w.heap.size, 4, none⟩ = some (.slice none 0 0) := HR7.out.cell 4
        have f0 := HR7.out.free 0
        have f1 := HR7.out.free 1
        have f2 := HR7.out.free 2
        have f3 := HR7.out.free 3
        have f4 := HR7.out.free 4
        have HTT := Lib.hid (show takeNode l = (nd0, [], e6) from by rw [HN5.out, HST2.out, thenP_no (r := (nm, s6, e6)) HNE.out]; exact thenP_no HNE.out)
        go_wp2_with fail
        refine bodyPost_ret (v := .tuple #[.agg #[.int .i64 0, .int .i64 0, .int .i64 0, .string ⟨#[]⟩, .slice none 0 0], .string ⟨#[]⟩, .int .i64 e6]) (by simp [results, Try.results12, go_sem, g0, g1, g2, g3, g4]) rfl ⟨_, by rw [HTT.out] <;> rfl, ⟨none, 0, by rw [HTT.out] <;> rfl, by rw [HTT.out]; exact Ents.nil _⟩, set5_below0 HB7.out _ _ _ _ _⟩
      subst he6
      have HST3 := Lib.hid (HST2.out.trans (thenP_ok rfl))
      simp only at HST3
      clear HST2
      have HS3 := HST3.out
      generalize takeWhole s6 = y at *
      obtain ⟨z, s7, e7⟩ := y
      simp only at HWH wb HS3
      have HST4 := Lib.hid HS3
      have HWB := Lib.hid wb
      clear HS3 HST3 wb
      go_wp2_with fail
      refine (HWH.out _).mono ?_
      rintro ee w8 ⟨rfl, hb8⟩
      have HR8 := Lib.hid (HR7.out.below hb8)
      have HT8 := Lib.hid (HT7.out.below hb8)
      have HO8 := Lib.hid (owns_below HO7.out hb8)
      have HB8 := Lib.hid (below_trans HB7.out hb8 HB7.out.size)
      clear hb8
      by_cases he7 : e7 = 0
      rotate_left
      · have hne : (e7 == 0) = false := by simpa using he7
        have hne2 : (e7 != 0) = true := by simpa using he7
        have HNE := Lib.hid he7
        clear he7
        have g0 : w8.cell? ⟨w.heap.size, 0, none⟩ = some (.int .i64 0) := HR8.out.cell 0
        have g1 : w8.cell? ⟨w.heap.size, 1, none⟩ = some (.int .i64 0) := HR8.out.cell 1
        have g2 : w8.cell? ⟨w.heap.size, 2, none⟩ = some (.int .i64 0) := HR8.out.cell 2
        have g3 : w8.cell? ⟨w.heap.size, 3, none⟩ = some (.string ⟨#[]⟩) := HR8.out.cell 3
        have g4 : w8.cell? ⟨w.heap.size, 4, none⟩ = some (.slice none 0 0) := HR8.out.cell 4
        have f0 := HR8.out.free 0
        have f1 := HR8.out.free 1
        have f2 := HR8.out.free 2
        have f3 := HR8.out.free 3
        have f4 := HR8.out.free 4
        have HTT := Lib.hid (show takeNode l = (nd0, [], e7) from by rw [HN5.out, HST4.out, thenP_no (r := (z, s7, e7)) HNE.out]; exact thenP_no HNE.out)
        go_wp2_with fail
        refine bodyPost_ret (v := .tuple #[.agg #[.int .i64 0, .int .i64 0, .int .i64 0, .string ⟨#[]⟩, .slice none 0 0], .string ⟨#[]⟩, .int .i64 e7]) (by simp [results, Try.results12, go_sem, g0, g1, g2, g3, g4]) rfl ⟨_, by rw [HTT.out] <;> rfl, ⟨none, 0, by rw [HTT.out] <;> rfl, by rw [HTT.out]; exact Ents.nil _⟩, set5_below0 HB8.out _ _ _ _ _⟩
      subst he7
      have HST5 := Lib.hid (HST4.out.trans (thenP_ok rfl))
      simp only at HST5
      clear HST4
      have hs8 := HT8.out.lt
      obtain ⟨v', w9, hrun, ho9, hk9, hs9, hb9⟩ := app_ent (w3 := w8) (base := X + 1) (k := k) (acc := acc) (nm, z) HO8.out (by omega) (by omega)
      obtain ⟨A9, c9, rfl, -, -⟩ := (Sl.of_owns ho9).shape
      have t9 : TBox w9 X 24 #[.int .i64 ino, .int .i64 kind, .int .i64 links, .string ⟨text.toArray⟩, sv] := by
        have := HT8.out
        unfold TBox at this ⊢
        rw [hk9 _ (by omega)]
        exact this
      have r9 : TBox w9 w.heap.size 24 (ndC nd0 (.slice none 0 0)) := by
        have := HR8.out
        unfold TBox at this ⊢
        rw [hk9 _ (by omega)]
        exact this
      have b9 : Below w.heap.size w w9 := hb9 _ _ HB8.out (by omega)
      have p4 : w8.cell? ⟨X, 4, none⟩ = some sv := HT8.out.cell 4
      have p4w : w9.cell? ⟨X, 4, none⟩ = some sv := t9.cell 4
      have f4w : w9.frozen? ⟨X, 4, none⟩ = false := t9.free 4
      have HZ := Lib.hid (And.intro t9 (And.intro r9 (And.intro b9 ho9)))
      clear t9 r9 b9 ho9 hk9 hb9
      go_wp2_with (at_builtin; refine wpList_append_run rfl _ _ _ rfl _ _ _ _ rfl rfl hrun ?_)
      go_roundw
      case rel =>
        refine ⟨k + 1, acc ++ [(nm, z)], s7, _, by go_num, rfl, by omega, by rw [List.length_append, HRL.out.len]; rfl, HZ.out.2.1.far _ _ _ (by omega), HZ.out.1.set 4 _, owns_setCell HZ.out.2.2.2 _ _ (by simp), ?_, HZ.out.2.2.1.setCell (p := ⟨X, 4, none⟩) (by simp; omega) _, by have := HWB.out; have := HTB.out; omega, fun x hx => ?_⟩
        · rw [HST5.out]
          rfl
        · rcases List.mem_append.1 hx with hx | hx
          · exact HRL.out.ok x hx
          · rw [List.mem_singleton.1 hx]
            exact ⟨by have := HTL2.out (by first | rfl | trivial); simp only; omega, HWB.out.1⟩
      case measure => simp [intOf]; omega
    · obtain rfl : k = m := by omega
      have hgo := HRL.out.go
      rw [Nat.sub_self, takeEs] at hgo
      have hN3 := HN5.out
      rw [← hgo, thenP_ok rfl] at hN3
      simp only at hN3
      have hE : Ents wr sv acc := by
        have := Sl.of_owns HRL.out.own
        rw [← HRL.out.len] at this
        exact this
      have HAT := Lib.hid (At.of_owns HRL.out.own)
      obtain ⟨A, c, rfl, -⟩ := hE.shape
      have ho : OkN ⟨ino, kind, links, text, acc⟩ := ⟨HLS.out.1.1, HLS.out.2.1.1, HLS.out.2.2.1.1, by have := HLS.out; simp only; omega, fun x hx => ⟨by have := (HRL.out.ok x hx).1; omega, (HRL.out.ok x hx).2⟩, by have := HRL.out.len; simp only; omega⟩
      have HRI := Lib.hid (ref07_Right ⟨ino, kind, links, text, acc⟩ _ wr ⟨A, c, rfl, hE⟩ ho)
      have t := HRL.out.t
      have x0 : wr.cell? ⟨X, 0, none⟩ = some (.int .i64 ino) := t.cell 0
      have x1 : wr.cell? ⟨X, 1, none⟩ = some (.int .i64 kind) := t.cell 1
      have x2 : wr.cell? ⟨X, 2, none⟩ = some (.int .i64 links) := t.cell 2
      have x3 : wr.cell? ⟨X, 3, none⟩ = some (.string ⟨text.toArray⟩) := t.cell 3
      have x4 : wr.cell? ⟨X, 4, none⟩ = some (.slice A acc.length c) := t.cell 4
      have HE := Lib.hid hE
      have HN3 := Lib.hid hN3
      clear t hE ho hgo hN3
      unfold endN at HN3
      generalize rightN ⟨ino, kind, links, text, acc⟩ = r at *
      go_wp2_with fail
      refine HRI.out.mono ?_
      rintro ee w1' ⟨rfl, hb1⟩
      have HT1 := Lib.hid (HRL.out.t.below hb1)
      have HR1 := Lib.hid (HRL.out.r.below hb1)
      have HB1 := Lib.hid (below_trans HRL.out.b hb1 HRL.out.b.size)
      have HE1 := Lib.hid (HE.out.below hb1)
      clear hb1 x0 x1 x2 x3 x4
      have x0 : w1'.cell? ⟨X, 0, none⟩ = some (.int .i64 ino) := HT1.out.cell 0
      have x1 : w1'.cell? ⟨X, 1, none⟩ = some (.int .i64 kind) := HT1.out.cell 1
      have x2 : w1'.cell? ⟨X, 2, none⟩ = some (.int .i64 links) := HT1.out.cell 2
      have x3 : w1'.cell? ⟨X, 3, none⟩ = some (.string ⟨text.toArray⟩) := HT1.out.cell 3
      have x4 : w1'.cell? ⟨X, 4, none⟩ = some (.slice A acc.length c) := HT1.out.cell 4
      cases r
      · have g0 : w1'.cell? ⟨w.heap.size, 0, none⟩ = some (.int .i64 0) := HR1.out.cell 0
        have g1 : w1'.cell? ⟨w.heap.size, 1, none⟩ = some (.int .i64 0) := HR1.out.cell 1
        have g2 : w1'.cell? ⟨w.heap.size, 2, none⟩ = some (.int .i64 0) := HR1.out.cell 2
        have g3 : w1'.cell? ⟨w.heap.size, 3, none⟩ = some (.string ⟨#[]⟩) := HR1.out.cell 3
        have g4 : w1'.cell? ⟨w.heap.size, 4, none⟩ = some (.slice none 0 0) := HR1.out.cell 4
        have f0 := HR1.out.free 0
        have f1 := HR1.out.free 1
        have f2 := HR1.out.free 2
        have f3 := HR1.out.free 3
        have f4 := HR1.out.free 4
        have HTT := Lib.hid (show takeNode l = (nd0, [], 3) from by rw [HN3.out] <;> rfl)
        go_wp2_with fail
        refine bodyPost_ret (v := .tuple #[.agg #[.int .i64 0, .int .i64 0, .int .i64 0, .string ⟨#[]⟩, .slice none 0 0], .string ⟨#[]⟩, .int .i64 3]) (by simp [results, Try.results12, go_sem, g0, g1, g2, g3, g4]) rfl ⟨_, by rw [HTT.out] <;> rfl, ⟨none, 0, by rw [HTT.out] <;> rfl, by rw [HTT.out]; exact Ents.nil _⟩, set5_below0 HB1.out _ _ _ _ _⟩
      · have g0 : w1'.cell? ⟨w.heap.size, 0, none⟩ = some (.int .i64 0) := HR1.out.cell 0
        have g1 : w1'.cell? ⟨w.heap.size, 1, none⟩ = some (.int .i64 0) := HR1.out.cell 1
        have g2 : w1'.cell? ⟨w.heap.size, 2, none⟩ = some (.int .i64 0) := HR1.out.cell 2
        have g3 : w1'.cell? ⟨w.heap.size, 3, none⟩ = some (.string ⟨#[]⟩) := HR1.out.cell 3
        have g4 : w1'.cell? ⟨w.heap.size, 4, none⟩ = some (.slice none 0 0) := HR1.out.cell 4
        have f0 := HR1.out.free 0
        have f1 := HR1.out.free 1
        have f2 := HR1.out.free 2
        have f3 := HR1.out.free 3
        have f4 := HR1.out.free 4
        have HTT := Lib.hid (show takeNode l = (⟨ino, kind, links, text, acc⟩, s, 0) from by rw [HN3.out] <;> rfl)
        go_wp2_with fail
        refine bodyPost_ret (v := .tuple #[.agg #[.int .i64 ino, .int .i64 kind, .int .i64 links, .string ⟨text.toArray⟩, .slice A acc.length c], .string ⟨s.toArray⟩, .int .i64 0]) (by simp [results, Try.results12, go_sem, g0, g1, g2, g3, g4]) rfl ⟨_, by rw [HTT.out] <;> rfl, ⟨A, c, by rw [HTT.out] <;> rfl, by rw [HTT.out]; exact Sl.frame HE1.out HAT.out (fun b hb hs => set5_far0 _ _ _ _ _ _ _ _ (by omega)) (set5_size0 _ _ _ _ _ _ _)⟩, set5_below0 HB1.out _ _ _ _ _⟩
end Go.Proofs.Ytoinafcjkbdjnaa
