/- wire.taking's names and reply, wire.TakeRsp's function: each answers as the document says, and leaves what is left in its box. -/
import Derived.Test.YtpojhcpkmpbflaaWireTk3
import Derived.Test.YtpojhcpkmpbflaaSet6
set_option linter.unusedVariables false
set_option linter.unusedSimpArgs false
namespace Go.Proofs.Ytpojhcpkmpbflaa
open Go.RowKit Copyhold

set_option maxHeartbeats 2000000 in
theorem taking_names (l : List UInt8) (B : Nat) (w : World) (hb : BoxT w B l 0) (hl : l.length ≤ 2147483648) :
    Calls Try.prog 68 #[.pointer (some ⟨B, 0, none⟩)] w fun e w' => ∃ v, e = .returned v ∧ w'.ownsRow w.heap.size 9 1 v (takeList l 256 32).1.length ((takeList l 256 32).1.map strV) ∧ TakeW w B (takeList l 256 32).2.1 (takeList l 256 32).2.2 w' := by
  obtain ⟨c0, c1, f0, f1⟩ := hb
  have hB := cell_lt c0
  have HT := Lib.hid (octet_TakeList l 256 32 w hl (by decide) (by decide) (by decide) (by decide))
  generalize takeList l 256 32 = x at *
  obtain ⟨n, r, e⟩ := x
  unfold RetTexts at HT
  simp only at HT
  go_enter Try.func68, Try.ntmps68
  go_wp2_with fail
  refine HT.out.mono ?_
  rintro e w1 ⟨v, rfl, ho, hb1⟩
  obtain ⟨A, c, rfl, -, -⟩ := (Sl.of_owns ho).shape
  have d0 := cell_keep hb1 c0
  have d1 := cell_keep hb1 c1
  have g0 := ((bcell hb1).2 B 0 hB).trans f0
  have g1 := ((bcell hb1).2 B 1 hB).trans f1
  have HB1 := Lib.hid hb1
  have HO := Lib.hid ho
  clear hb1 c0 c1 f0 f1 ho
  go_wp2_with fail
  go_ret
  exact ⟨_, rfl, owns_setCell (owns_setCell HO.out _ _ hB) _ _ hB, _, HB1.out, rfl⟩

theorem taking_namesS (l : List UInt8) (err : Int) (B : Nat) (T : TypeId) (cs : Array Value) (w : World) (hb : TBox w B T cs) (h0 : cs[0]? = some (.string ⟨l.toArray⟩)) (h1 : cs[1]? = some (.int .i64 err)) (hl : l.length ≤ 2147483648) :
    Calls Try.prog 68 #[.pointer (some ⟨B, 0, none⟩)] w fun e w' => ∃ v, e = .returned v ∧ w'.ownsRow w.heap.size 9 1 v (namesSt l err).1.length ((namesSt l err).1.map strV) ∧ TakeR w B (namesSt l err).2.1 (namesSt l err).2.2 w' := by
  by_cases he : err = 0
  · subst he
    rw [namesSt, stP_zero]
    exact (taking_names l B w (hb.boxT h0 h1) hl).mono fun e w' ⟨v, h, ho, k⟩ => ⟨v, h, ho, k.r⟩
  · rw [namesSt, stP_bad he]
    exact (taking_names_no l err B w (hb.boxT h0 h1) he).mono fun e w' ⟨h, k⟩ => ⟨_, h, World.ownsRow_nil _ _ _ _, k ▸ TakeR.refl hb h0 h1⟩

theorem namesSt_len (s : List UInt8) (e : Int) : (namesSt s e).1.length ≤ s.length := by
  by_cases h : e = 0
  · subst h; rw [namesSt, stP_zero]; exact takeList_len s 256 32
  · rw [namesSt, stP_bad h]; simp

/-- a reply that is taken, part by part -/
structure RepT where
  a : Int × List UInt8 × Int
  b : Int × List UInt8 × Int
  c : Int × List UInt8 × Int
  d : Int × List UInt8 × Int
  e : List UInt8 × List UInt8 × Int
  f : List (List UInt8) × List UInt8 × Int
def repT (s : List UInt8) (er : Int) : RepT :=
  let a := numSt s er
  let b := numSt a.2.1 a.2.2
  let c := numSt b.2.1 b.2.2
  let d := numSt c.2.1 c.2.2
  let e := textSt d.2.1 d.2.2
  ⟨a, b, c, d, e, namesSt e.2.1 e.2.2⟩
theorem repT_bd (s : List UInt8) (er : Int) : (repT s er).a.2.1.length ≤ s.length ∧ (repT s er).b.2.1.length ≤ s.length ∧ (repT s er).c.2.1.length ≤ s.length ∧ (repT s er).d.2.1.length ≤ s.length ∧ (repT s er).e.2.1.length ≤ s.length := by
  unfold repT
  dsimp only
  have h1 := (numSt_bd s er).2.1
  generalize numSt s er = a at *
  have h2 := (numSt_bd a.2.1 a.2.2).2.1
  generalize numSt a.2.1 a.2.2 = b at *
  have h3 := (numSt_bd b.2.1 b.2.2).2.1
  generalize numSt b.2.1 b.2.2 = c at *
  have h4 := (numSt_bd c.2.1 c.2.2).2.1
  generalize numSt c.2.1 c.2.2 = d at *
  have h5 := (textSt_bd d.2.1 d.2.2).2.1
  generalize textSt d.2.1 d.2.2 = e at *
  exact ⟨by omega, by omega, by omega, by omega, by omega⟩
theorem rspT_bd (s : List UInt8) (er : Int) : (rspT s er).a.2.1.length ≤ s.length ∧ (rspT s er).b.2.1.length ≤ s.length ∧ (rspT s er).c.2.1.length ≤ s.length ∧ (rspT s er).d.2.1.length ≤ s.length ∧ (rspT s er).e.2.1.length ≤ s.length := by
  unfold rspT
  dsimp only
  have h1 := (numSt_bd s er).2.1
  generalize numSt s er = a at *
  have h2 := (numSt_bd a.2.1 a.2.2).2.1
  generalize numSt a.2.1 a.2.2 = b at *
  have h3 := (numSt_bd b.2.1 b.2.2).2.1
  generalize numSt b.2.1 b.2.2 = c at *
  have h4 := (numSt_bd c.2.1 c.2.2).2.1
  generalize numSt c.2.1 c.2.2 = d at *
  have h5 := (numSt_bd d.2.1 d.2.2).2.1
  exact ⟨by omega, by omega, by omega, by omega, by omega⟩

set_option maxRecDepth 100000 in
set_option maxHeartbeats 16000000 in
theorem taking_reply (l : List UInt8) (err : Int) (B : Nat) (T : TypeId) (cs : Array Value) (w : World) (hb : TBox w B T cs) (h0 : cs[0]? = some (.string ⟨l.toArray⟩)) (h1 : cs[1]? = some (.int .i64 err)) (hl : l.length ≤ 2147483648) :
    Calls Try.prog 47 #[.pointer (some ⟨B, 0, none⟩)] w fun e w' => ∃ A c, e = .returned (.agg #[.int .i64 (repT l err).a.1, .int .i64 (repT l err).b.1, .int .i64 (repT l err).c.1, .int .i64 (repT l err).d.1, .string ⟨(repT l err).e.1.toArray⟩, .slice A (repT l err).f.1.length c]) ∧
      w'.ownsRow w.heap.size 9 1 (.slice A (repT l err).f.1.length c) (repT l err).f.1.length ((repT l err).f.1.map strV) ∧ TakeR w B (repT l err).f.2.1 (repT l err).f.2.2 w' := by
  have hB := hb.lt
  have hbd := repT_bd l err
  unfold repT at *
  dsimp only at hbd ⊢
  have Hpa := Lib.hid (fun W cs (h : TBox W B T cs) (h0 : cs[0]? = some (.string ⟨(l : List UInt8).toArray⟩)) (h1 : cs[1]? = some (.int .i64 err)) => taking_numberS l err B T cs W h h0 h1 (by omega))
  generalize numSt l err = pa at *
  obtain ⟨pa1, pa2, pa3⟩ := pa
  dsimp only at hbd Hpa ⊢
  have Hpb := Lib.hid (fun W cs (h : TBox W B T cs) (h0 : cs[0]? = some (.string ⟨(pa2 : List UInt8).toArray⟩)) (h1 : cs[1]? = some (.int .i64 pa3)) => taking_numberS pa2 pa3 B T cs W h h0 h1 (by omega))
  generalize numSt pa2 pa3 = pb at *
  obtain ⟨pb1, pb2, pb3⟩ := pb
  dsimp only at hbd Hpb ⊢
  have Hpc := Lib.hid (fun W cs (h : TBox W B T cs) (h0 : cs[0]? = some (.string ⟨(pb2 : List UInt8).toArray⟩)) (h1 : cs[1]? = some (.int .i64 pb3)) => taking_numberS pb2 pb3 B T cs W h h0 h1 (by omega))
  generalize numSt pb2 pb3 = pc at *
  obtain ⟨pc1, pc2, pc3⟩ := pc
  dsimp only at hbd Hpc ⊢
  have Hpd := Lib.hid (fun W cs (h : TBox W B T cs) (h0 : cs[0]? = some (.string ⟨(pc2 : List UInt8).toArray⟩)) (h1 : cs[1]? = some (.int .i64 pc3)) => taking_numberS pc2 pc3 B T cs W h h0 h1 (by omega))
  generalize numSt pc2 pc3 = pd at *
  obtain ⟨pd1, pd2, pd3⟩ := pd
  dsimp only at hbd Hpd ⊢
  have Hpe := Lib.hid (fun W cs (h : TBox W B T cs) (h0 : cs[0]? = some (.string ⟨(pd2 : List UInt8).toArray⟩)) (h1 : cs[1]? = some (.int .i64 pd3)) => taking_textS pd2 pd3 B T cs W h h0 h1 (by omega))
  generalize textSt pd2 pd3 = pe at *
  obtain ⟨pe1, pe2, pe3⟩ := pe
  dsimp only at hbd Hpe ⊢
  have Hpf := Lib.hid (fun W cs (h : TBox W B T cs) (h0 : cs[0]? = some (.string ⟨(pe2 : List UInt8).toArray⟩)) (h1 : cs[1]? = some (.int .i64 pe3)) => taking_namesS pe2 pe3 B T cs W h h0 h1 (by omega))
  generalize namesSt pe2 pe3 = pf at *
  obtain ⟨pf1, pf2, pf3⟩ := pf
  dsimp only at hbd Hpf ⊢
  obtain ⟨W0, hW0⟩ : ∃ W0, W0 = (w.alloc (.cells #[.int .i64 0, .int .i64 0, .int .i64 0, .int .i64 0, .string ⟨#[]⟩, .slice none 0 0] 29)).alloc (.cells #[.int .i64 0, .int .i64 0, .int .i64 0, .int .i64 0, .string ⟨#[]⟩, .slice none 0 0] 29) := ⟨_, rfl⟩
  have hb0 : Below w.heap.size w W0 := by rw [hW0]; exact ((Below.refl _ _).alloc (Nat.le_refl _) _).alloc (by simp) _
  have tr : TBox W0 w.heap.size 29 #[.int .i64 0, .int .i64 0, .int .i64 0, .int .i64 0, .string ⟨#[]⟩, .slice none 0 0] := by rw [hW0]; exact (TBox.new _ _ _).below ((Below.refl _ _).alloc (Nat.le_refl _) _)
  have tc : TBox W0 (w.heap.size + 1) 29 #[.int .i64 0, .int .i64 0, .int .i64 0, .int .i64 0, .string ⟨#[]⟩, .slice none 0 0] := by
    rw [hW0]
    have h := TBox.new (w.alloc (.cells #[.int .i64 0, .int .i64 0, .int .i64 0, .int .i64 0, .string ⟨#[]⟩, .slice none 0 0] 29)) 29 #[.int .i64 0, .int .i64 0, .int .i64 0, .int .i64 0, .string ⟨#[]⟩, .slice none 0 0]
    rw [show (w.alloc (.cells #[.int .i64 0, .int .i64 0, .int .i64 0, .int .i64 0, .string ⟨#[]⟩, .slice none 0 0] 29)).heap.size = w.heap.size + 1 from by simp] at h
    exact h
  have HX0 := Lib.hid (And.intro (TakeR.of_below hb0 hB (TakeR.refl (hb.below hb0) h0 h1)) (And.intro tr tc))
  have HT0 := Lib.hid (And.intro hb (And.intro h0 h1))
  have HW := Lib.hid hW0
  clear hbd hb h0 h1 hW0 hb0 tr tc
  go_enter Try.func47, Try.ntmps47
  go_wp2_with fail
  rw [← HW.out]
  refine (Hpa.out W0 _ (HX0.out.1.1 _ _ HT0.out.1) (box_get0 HT0.out.2.2) (box_get1 HT0.out.2.2)).mono ?_
  rintro e w1 ⟨rfl, hr⟩
  have hs1 : w.heap.size + 2 ≤ W0.heap.size := by have := HX0.out.2.2.lt; omega
  have tr := hr.far HX0.out.2.1 (by omega)
  have tc := hr.far HX0.out.2.2 (by omega)
  have hsz1 : w.heap.size + 2 ≤ w1.heap.size := by have := tc.lt; omega
  have c0 : w1.cell? ⟨w.heap.size + 1, 0, none⟩ = some (.int .i64 0) := tc.cell 0
  have f0 := tc.free 0
  have HY1 := Lib.hid (And.intro (HX0.out.1.trans hr) (And.intro tr tc))
  clear hr tr tc
  go_wp2_with fail
  obtain ⟨V1, hV⟩ : ∃ V, V = w1.setCell ⟨w.heap.size + 1, 0, none⟩ (.int .i64 pa1) := ⟨_, rfl⟩
  rw [← hV]
  have HX1 := Lib.hid (show TakeR w B pa2 pa3 V1 ∧ TBox V1 w.heap.size 29 #[.int .i64 0, .int .i64 0, .int .i64 0, .int .i64 0, .string ⟨#[]⟩, .slice none 0 0] ∧ TBox V1 (w.heap.size + 1) 29 #[.int .i64 pa1, .int .i64 0, .int .i64 0, .int .i64 0, .string ⟨#[]⟩, .slice none 0 0] from by
    rw [hV]
    exact ⟨TakeR.set_far HY1.out.1 _ _ _ (by omega) hB, HY1.out.2.1.far _ _ _ (by omega), HY1.out.2.2.set 0 _⟩)
  clear hV c0 f0
  refine (Hpb.out V1 _ (HX1.out.1.1 _ _ HT0.out.1) (box_get0 HT0.out.2.2) (box_get1 HT0.out.2.2)).mono ?_
  rintro e w2 ⟨rfl, hr⟩
  have hs2 : w.heap.size + 2 ≤ V1.heap.size := by have := HX1.out.2.2.lt; omega
  have tr := hr.far HX1.out.2.1 (by omega)
  have tc := hr.far HX1.out.2.2 (by omega)
  have hsz2 : w.heap.size + 2 ≤ w2.heap.size := by have := tc.lt; omega
  have c1 : w2.cell? ⟨w.heap.size + 1, 1, none⟩ = some (.int .i64 0) := tc.cell 1
  have f1 := tc.free 1
  have HY2 := Lib.hid (And.intro (HX1.out.1.trans hr) (And.intro tr tc))
  clear hr tr tc
  go_wp2_with fail
  obtain ⟨V2, hV⟩ : ∃ V, V = w2.setCell ⟨w.heap.size + 1, 1, none⟩ (.int .i64 pb1) := ⟨_, rfl⟩
  rw [← hV]
  have HX2 := Lib.hid (show TakeR w B pb2 pb3 V2 ∧ TBox V2 w.heap.size 29 #[.int .i64 0, .int .i64 0, .int .i64 0, .int .i64 0, .string ⟨#[]⟩, .slice none 0 0] ∧ TBox V2 (w.heap.size + 1) 29 #[.int .i64 pa1, .int .i64 pb1, .int .i64 0, .int .i64 0, .string ⟨#[]⟩, .slice none 0 0] from by
    rw [hV]
    exact ⟨TakeR.set_far HY2.out.1 _ _ _ (by omega) hB, HY2.out.2.1.far _ _ _ (by omega), HY2.out.2.2.set 1 _⟩)
  clear hV c1 f1
  refine (Hpc.out V2 _ (HX2.out.1.1 _ _ HT0.out.1) (box_get0 HT0.out.2.2) (box_get1 HT0.out.2.2)).mono ?_
  rintro e w3 ⟨rfl, hr⟩
  have hs3 : w.heap.size + 2 ≤ V2.heap.size := by have := HX2.out.2.2.lt; omega
  have tr := hr.far HX2.out.2.1 (by omega)
  have tc := hr.far HX2.out.2.2 (by omega)
  have hsz3 : w.heap.size + 2 ≤ w3.heap.size := by have := tc.lt; omega
  have c2 : w3.cell? ⟨w.heap.size + 1, 2, none⟩ = some (.int .i64 0) := tc.cell 2
  have f2 := tc.free 2
  have HY3 := Lib.hid (And.intro (HX2.out.1.trans hr) (And.intro tr tc))
  clear hr tr tc
  go_wp2_with fail
  obtain ⟨V3, hV⟩ : ∃ V, V = w3.setCell ⟨w.heap.size + 1, 2, none⟩ (.int .i64 pc1) := ⟨_, rfl⟩
  rw [← hV]
  have HX3 := Lib.hid (show TakeR w B pc2 pc3 V3 ∧ TBox V3 w.heap.size 29 #[.int .i64 0, .int .i64 0, .int .i64 0, .int .i64 0, .string ⟨#[]⟩, .slice none 0 0] ∧ TBox V3 (w.heap.size + 1) 29 #[.int .i64 pa1, .int .i64 pb1, .int .i64 pc1, .int .i64 0, .string ⟨#[]⟩, .slice none 0 0] from by
    rw [hV]
    exact ⟨TakeR.set_far HY3.out.1 _ _ _ (by omega) hB, HY3.out.2.1.far _ _ _ (by omega), HY3.out.2.2.set 2 _⟩)
  clear hV c2 f2
  refine (Hpd.out V3 _ (HX3.out.1.1 _ _ HT0.out.1) (box_get0 HT0.out.2.2) (box_get1 HT0.out.2.2)).mono ?_
  rintro e w4 ⟨rfl, hr⟩
  have hs4 : w.heap.size + 2 ≤ V3.heap.size := by have := HX3.out.2.2.lt; omega
  have tr := hr.far HX3.out.2.1 (by omega)
  have tc := hr.far HX3.out.2.2 (by omega)
  have hsz4 : w.heap.size + 2 ≤ w4.heap.size := by have := tc.lt; omega
  have c3 : w4.cell? ⟨w.heap.size + 1, 3, none⟩ = some (.int .i64 0) := tc.cell 3
  have f3 := tc.free 3
  have HY4 := Lib.hid (And.intro (HX3.out.1.trans hr) (And.intro tr tc))
  clear hr tr tc
  go_wp2_with fail
  obtain ⟨V4, hV⟩ : ∃ V, V = w4.setCell ⟨w.heap.size + 1, 3, none⟩ (.int .i64 pd1) := ⟨_, rfl⟩
  rw [← hV]
  have HX4 := Lib.hid (show TakeR w B pd2 pd3 V4 ∧ TBox V4 w.heap.size 29 #[.int .i64 0, .int .i64 0, .int .i64 0, .int .i64 0, .string ⟨#[]⟩, .slice none 0 0] ∧ TBox V4 (w.heap.size + 1) 29 #[.int .i64 pa1, .int .i64 pb1, .int .i64 pc1, .int .i64 pd1, .string ⟨#[]⟩, .slice none 0 0] from by
    rw [hV]
    exact ⟨TakeR.set_far HY4.out.1 _ _ _ (by omega) hB, HY4.out.2.1.far _ _ _ (by omega), HY4.out.2.2.set 3 _⟩)
  clear hV c3 f3
  refine (Hpe.out V4 _ (HX4.out.1.1 _ _ HT0.out.1) (box_get0 HT0.out.2.2) (box_get1 HT0.out.2.2)).mono ?_
  rintro e w5 ⟨rfl, hr⟩
  have hs5 : w.heap.size + 2 ≤ V4.heap.size := by have := HX4.out.2.2.lt; omega
  have tr := hr.far HX4.out.2.1 (by omega)
  have tc := hr.far HX4.out.2.2 (by omega)
  have hsz5 : w.heap.size + 2 ≤ w5.heap.size := by have := tc.lt; omega
  have c4 : w5.cell? ⟨w.heap.size + 1, 4, none⟩ = some (.string ⟨#[]⟩) := tc.cell 4
  have f4 := tc.free 4
  have HY5 := Lib.hid (And.intro (HX4.out.1.trans hr) (And.intro tr tc))
  clear hr tr tc
  go_wp2_with fail
  obtain ⟨V5, hV⟩ : ∃ V, V = w5.setCell ⟨w.heap.size + 1, 4, none⟩ (.string ⟨pe1.toArray⟩) := ⟨_, rfl⟩
  rw [← hV]
  have HX5 := Lib.hid (show TakeR w B pe2 pe3 V5 ∧ TBox V5 w.heap.size 29 #[.int .i64 0, .int .i64 0, .int .i64 0, .int .i64 0, .string ⟨#[]⟩, .slice none 0 0] ∧ TBox V5 (w.heap.size + 1) 29 #[.int .i64 pa1, .int .i64 pb1, .int .i64 pc1, .int .i64 pd1, .string ⟨pe1.toArray⟩, .slice none 0 0] from by
    rw [hV]
    exact ⟨TakeR.set_far HY5.out.1 _ _ _ (by omega) hB, HY5.out.2.1.far _ _ _ (by omega), HY5.out.2.2.set 4 _⟩)
  clear hV c4 f4
  refine (Hpf.out V5 _ (HX5.out.1.1 _ _ HT0.out.1) (box_get0 HT0.out.2.2) (box_get1 HT0.out.2.2)).mono ?_
  rintro e w6 ⟨v, rfl, ho, hr⟩
  obtain ⟨A, cp, rfl, -, -⟩ := (Sl.of_owns ho).shape
  have hs6 : w.heap.size + 2 ≤ V5.heap.size := by have := HX5.out.2.2.lt; omega
  have tr := hr.far HX5.out.2.1 (by omega)
  have tc := hr.far HX5.out.2.2 (by omega)
  have hsz6 : w.heap.size + 2 ≤ w6.heap.size := by have := tc.lt; omega
  have c0 : w6.cell? ⟨w.heap.size + 1, 0, none⟩ = some (.int .i64 pa1) := tc.cell 0
  have c1 : w6.cell? ⟨w.heap.size + 1, 1, none⟩ = some (.int .i64 pb1) := tc.cell 1
  have c2 : w6.cell? ⟨w.heap.size + 1, 2, none⟩ = some (.int .i64 pc1) := tc.cell 2
  have c3 : w6.cell? ⟨w.heap.size + 1, 3, none⟩ = some (.int .i64 pd1) := tc.cell 3
  have c4 : w6.cell? ⟨w.heap.size + 1, 4, none⟩ = some (.string ⟨pe1.toArray⟩) := tc.cell 4
  have c5 : w6.cell? ⟨w.heap.size + 1, 5, none⟩ = some (.slice none 0 0) := tc.cell 5
  have f5 := tc.free 5
  have r0 : w6.cell? ⟨w.heap.size, 0, none⟩ = some (.int .i64 0) := tr.cell 0
  have g0 := tr.free 0
  have r1 : w6.cell? ⟨w.heap.size, 1, none⟩ = some (.int .i64 0) := tr.cell 1
  have g1 := tr.free 1
  have r2 : w6.cell? ⟨w.heap.size, 2, none⟩ = some (.int .i64 0) := tr.cell 2
  have g2 := tr.free 2
  have r3 : w6.cell? ⟨w.heap.size, 3, none⟩ = some (.int .i64 0) := tr.cell 3
  have g3 := tr.free 3
  have r4 : w6.cell? ⟨w.heap.size, 4, none⟩ = some (.string ⟨#[]⟩) := tr.cell 4
  have g4 := tr.free 4
  have r5 : w6.cell? ⟨w.heap.size, 5, none⟩ = some (.slice none 0 0) := tr.cell 5
  have g5 := tr.free 5
  have HO := Lib.hid (owns_base ho hs6)
  clear ho
  have HY6 := Lib.hid (And.intro (HX5.out.1.trans hr) (And.intro tr tc))
  clear hr tr tc
  go_wp2_with fail
  obtain ⟨V9, hV⟩ : ∃ V, V = (((((((w6.setCell ⟨w.heap.size + 1, 5, none⟩ (.slice A pf1.length cp)).setCell ⟨w.heap.size, 0, none⟩ (.int .i64 pa1)).setCell ⟨w.heap.size, 1, none⟩ (.int .i64 pb1)).setCell ⟨w.heap.size, 2, none⟩ (.int .i64 pc1)).setCell ⟨w.heap.size, 3, none⟩ (.int .i64 pd1)).setCell ⟨w.heap.size, 4, none⟩ (.string ⟨pe1.toArray⟩)).setCell ⟨w.heap.size, 5, none⟩ (.slice A pf1.length cp)) := ⟨_, rfl⟩
  rw [← hV]
  have hz : TakeR w B pf2 pf3 V9 := by rw [hV]; exact (TakeR.set_far (TakeR.set_far (TakeR.set_far (TakeR.set_far (TakeR.set_far (TakeR.set_far (TakeR.set_far HY6.out.1 _ _ _ (by omega) hB) _ _ _ (Nat.le_refl _) hB) _ _ _ (Nat.le_refl _) hB) _ _ _ (Nat.le_refl _) hB) _ _ _ (Nat.le_refl _) hB) _ _ _ (Nat.le_refl _) hB) _ _ _ (Nat.le_refl _) hB)
  replace hV : V9 = set6 (w6.setCell ⟨w.heap.size + 1, 5, none⟩ (.slice A pf1.length cp)) w.heap.size (.int .i64 pa1) (.int .i64 pb1) (.int .i64 pc1) (.int .i64 pd1) (.string ⟨pe1.toArray⟩) (.slice A pf1.length cp) := hV
  have tz : TBox V9 w.heap.size 29 #[.int .i64 pa1, .int .i64 pb1, .int .i64 pc1, .int .i64 pd1, .string ⟨pe1.toArray⟩, .slice A pf1.length cp] := by rw [hV]; exact set6_box (HY6.out.2.1.far _ _ _ (by omega)) (.int .i64 pa1) (.int .i64 pb1) (.int .i64 pc1) (.int .i64 pd1) (.string ⟨pe1.toArray⟩) (.slice A pf1.length cp)
  have hox : V9.ownsRow w.heap.size 9 1 (.slice A pf1.length cp) pf1.length (pf1.map strV) := by rw [hV]; exact owns_base (set6_owns (owns_setCell HO.out ⟨w.heap.size + 1, 5, none⟩ _ (Nat.lt_succ_self _)) (by omega) (.int .i64 pa1) (.int .i64 pb1) (.int .i64 pc1) (.int .i64 pd1) (.string ⟨pe1.toArray⟩) (.slice A pf1.length cp)) (Nat.le_add_right _ 2)
  have q0 : V9.cell? ⟨w.heap.size, 0, none⟩ = some (.int .i64 pa1) := tz.cell 0
  have q1 : V9.cell? ⟨w.heap.size, 1, none⟩ = some (.int .i64 pb1) := tz.cell 1
  have q2 : V9.cell? ⟨w.heap.size, 2, none⟩ = some (.int .i64 pc1) := tz.cell 2
  have q3 : V9.cell? ⟨w.heap.size, 3, none⟩ = some (.int .i64 pd1) := tz.cell 3
  have q4 : V9.cell? ⟨w.heap.size, 4, none⟩ = some (.string ⟨pe1.toArray⟩) := tz.cell 4
  have q5 : V9.cell? ⟨w.heap.size, 5, none⟩ = some (.slice A pf1.length cp) := tz.cell 5
  clear hV r0 g0 c0 r1 g1 c1 r2 g2 c2 r3 g3 c3 r4 g4 c4 r5 g5 c5
  refine bodyPost_ret (v := .agg #[.int .i64 pa1, .int .i64 pb1, .int .i64 pc1, .int .i64 pd1, .string ⟨pe1.toArray⟩, .slice A pf1.length cp]) (by simp [results, Try.results47, go_sem, q0, q1, q2, q3, q4, q5]) rfl ⟨A, cp, rfl, hox, hz⟩

theorem rspT_rep (s : List UInt8) (er : Int) : rspSt s er = (⟨(rspT s er).a.1, (rspT s er).b.1, (rspT s er).c.1, (rspT s er).d.1, (rspT s er).e.1, (repT (rspT s er).e.2.1 (rspT s er).e.2.2).a.1, (repT (rspT s er).e.2.1 (rspT s er).e.2.2).b.1, (repT (rspT s er).e.2.1 (rspT s er).e.2.2).c.1, (repT (rspT s er).e.2.1 (rspT s er).e.2.2).d.1, (repT (rspT s er).e.2.1 (rspT s er).e.2.2).e.1, (repT (rspT s er).e.2.1 (rspT s er).e.2.2).f.1⟩, (repT (rspT s er).e.2.1 (rspT s er).e.2.2).f.2.1, (repT (rspT s er).e.2.1 (rspT s er).e.2.2).f.2.2) := rfl
/-- the last six cells of an answer's box, set -/
theorem rsp_set6 {V : World} {g : Nat} {T : TypeId} {a b c d e z0 z1 z2 z3 z4 z5 : Value} (h : TBox V g T #[a, b, c, d, e, z0, z1, z2, z3, z4, z5]) (x0 x1 x2 x3 x4 x5 : Value) :
    TBox ((((((V.setCell ⟨g, 5, none⟩ x0).setCell ⟨g, 6, none⟩ x1).setCell ⟨g, 7, none⟩ x2).setCell ⟨g, 8, none⟩ x3).setCell ⟨g, 9, none⟩ x4).setCell ⟨g, 10, none⟩ x5) g T #[a, b, c, d, e, x0, x1, x2, x3, x4, x5] := by
  have h := (((((h.set 5 x0).set 6 x1).set 7 x2).set 8 x3).set 9 x4).set 10 x5
  simpa only [List.setIfInBounds_toArray, List.set_cons_zero, List.set_cons_succ] using h

set_option maxRecDepth 100000 in
set_option maxHeartbeats 16000000 in
theorem takeRsp_fill (l : List UInt8) (err : Int) (B M : Nat) (T : TypeId) (cs : Array Value) (w : World) (hb : TBox w B T cs) (h0 : cs[0]? = some (.string ⟨l.toArray⟩)) (h1 : cs[1]? = some (.int .i64 err)) (hm : TBox w M 31 #[.int .i64 0, .int .i64 0, .int .i64 0, .int .i64 0, .int .i64 0, .int .i64 0, .int .i64 0, .int .i64 0, .int .i64 0, .string ⟨#[]⟩, .slice none 0 0]) (hne : M ≠ B) (hl : l.length ≤ 2147483648) :
    Calls Try.prog 46 #[.pointer (some ⟨B, 0, none⟩), .pointer (some ⟨M, 0, none⟩)] w fun e w' => e = .returned (.tuple #[]) ∧ Tk2 w B M (rspSt l err).2.1 (rspSt l err).2.2 w' ∧
      ∃ A c, TBox w' M 31 (rspCells (rspSt l err).1 (.slice A (rspSt l err).1.names.length c)) ∧ w'.ownsRow w.heap.size 9 1 (.slice A (rspSt l err).1.names.length c) (rspSt l err).1.names.length ((rspSt l err).1.names.map strV) := by
  have hbd := rspT_bd l err
  rw [rspT_rep]
  unfold rspT at *
  dsimp only at hbd ⊢
  have Hpa := Lib.hid (fun W cs (h : TBox W B T cs) (h0 : cs[0]? = some (.string ⟨(l : List UInt8).toArray⟩)) (h1 : cs[1]? = some (.int .i64 err)) => taking_numberS l err B T cs W h h0 h1 (by omega))
  generalize numSt l err = pa at *
  obtain ⟨pa1, pa2, pa3⟩ := pa
  dsimp only at hbd Hpa ⊢
  have Hpb := Lib.hid (fun W cs (h : TBox W B T cs) (h0 : cs[0]? = some (.string ⟨(pa2 : List UInt8).toArray⟩)) (h1 : cs[1]? = some (.int .i64 pa3)) => taking_numberS pa2 pa3 B T cs W h h0 h1 (by omega))
  generalize numSt pa2 pa3 = pb at *
  obtain ⟨pb1, pb2, pb3⟩ := pb
  dsimp only at hbd Hpb ⊢
  have Hpc := Lib.hid (fun W cs (h : TBox W B T cs) (h0 : cs[0]? = some (.string ⟨(pb2 : List UInt8).toArray⟩)) (h1 : cs[1]? = some (.int .i64 pb3)) => taking_numberS pb2 pb3 B T cs W h h0 h1 (by omega))
  generalize numSt pb2 pb3 = pc at *
  obtain ⟨pc1, pc2, pc3⟩ := pc
  dsimp only at hbd Hpc ⊢
  have Hpd := Lib.hid (fun W cs (h : TBox W B T cs) (h0 : cs[0]? = some (.string ⟨(pc2 : List UInt8).toArray⟩)) (h1 : cs[1]? = some (.int .i64 pc3)) => taking_numberS pc2 pc3 B T cs W h h0 h1 (by omega))
  generalize numSt pc2 pc3 = pd at *
  obtain ⟨pd1, pd2, pd3⟩ := pd
  dsimp only at hbd Hpd ⊢
  have Hpe := Lib.hid (fun W cs (h : TBox W B T cs) (h0 : cs[0]? = some (.string ⟨(pd2 : List UInt8).toArray⟩)) (h1 : cs[1]? = some (.int .i64 pd3)) => taking_numberS pd2 pd3 B T cs W h h0 h1 (by omega))
  generalize numSt pd2 pd3 = pe at *
  obtain ⟨pe1, pe2, pe3⟩ := pe
  dsimp only at hbd Hpe ⊢
  have Hpf := Lib.hid (fun W cs (h : TBox W B T cs) (h0 : cs[0]? = some (.string ⟨(pe2 : List UInt8).toArray⟩)) (h1 : cs[1]? = some (.int .i64 pe3)) => taking_reply pe2 pe3 B T cs W h h0 h1 (by omega))
  generalize repT pe2 pe3 = pf at *
  obtain ⟨⟨qa1, qa2, qa3⟩, ⟨qb1, qb2, qb3⟩, ⟨qc1, qc2, qc3⟩, ⟨qd1, qd2, qd3⟩, ⟨qe1, qe2, qe3⟩, ⟨qf1, qf2, qf3⟩⟩ := pf
  dsimp only at Hpf ⊢
  have HX0 := Lib.hid (And.intro (Tk2.of (M := M) (TakeR.refl hb h0 h1)) hm)
  have HT0 := Lib.hid (And.intro hb (And.intro h0 h1))
  have hB := hb.lt
  have hM := hm.lt
  have hne' : B ≠ M := fun h => hne h.symm
  clear hbd hb h0 h1 hm
  go_enter Try.func46, Try.ntmps46
  go_wp2_with fail
  refine (Hpa.out w _ (HX0.out.1.1 _ _ HT0.out.1) (box_get0 HT0.out.2.2) (box_get1 HT0.out.2.2)).mono ?_
  rintro e w1 ⟨rfl, hr⟩
  have tm := hr.far HX0.out.2 hne
  have c0 : w1.cell? ⟨M, 0, none⟩ = some (.int .i64 0) := tm.cell 0
  have f0 := tm.free 0
  have HY1 := Lib.hid (And.intro (Tk2.take HX0.out.1 hr) tm)
  clear hr tm
  go_wp2_with fail
  obtain ⟨V1, hV⟩ : ∃ V, V = w1.setCell ⟨M, 0, none⟩ (.int .i64 pa1) := ⟨_, rfl⟩
  rw [← hV]
  have HX1 := Lib.hid (show Tk2 w B M pa2 pa3 V1 ∧ TBox V1 M 31 #[.int .i64 pa1, .int .i64 0, .int .i64 0, .int .i64 0, .int .i64 0, .int .i64 0, .int .i64 0, .int .i64 0, .int .i64 0, .string ⟨#[]⟩, .slice none 0 0] from by
    rw [hV]
    exact ⟨Tk2.set HY1.out.1 hne' _ _, HY1.out.2.set 0 _⟩)
  clear hV c0 f0
  refine (Hpb.out V1 _ (HX1.out.1.1 _ _ HT0.out.1) (box_get0 HT0.out.2.2) (box_get1 HT0.out.2.2)).mono ?_
  rintro e w2 ⟨rfl, hr⟩
  have tm := hr.far HX1.out.2 hne
  have c1 : w2.cell? ⟨M, 1, none⟩ = some (.int .i64 0) := tm.cell 1
  have f1 := tm.free 1
  have HY2 := Lib.hid (And.intro (Tk2.take HX1.out.1 hr) tm)
  clear hr tm
  go_wp2_with fail
  obtain ⟨V2, hV⟩ : ∃ V, V = w2.setCell ⟨M, 1, none⟩ (.int .i64 pb1) := ⟨_, rfl⟩
  rw [← hV]
  have HX2 := Lib.hid (show Tk2 w B M pb2 pb3 V2 ∧ TBox V2 M 31 #[.int .i64 pa1, .int .i64 pb1, .int .i64 0, .int .i64 0, .int .i64 0, .int .i64 0, .int .i64 0, .int .i64 0, .int .i64 0, .string ⟨#[]⟩, .slice none 0 0] from by
    rw [hV]
    exact ⟨Tk2.set HY2.out.1 hne' _ _, HY2.out.2.set 1 _⟩)
  clear hV c1 f1
  refine (Hpc.out V2 _ (HX2.out.1.1 _ _ HT0.out.1) (box_get0 HT0.out.2.2) (box_get1 HT0.out.2.2)).mono ?_
  rintro e w3 ⟨rfl, hr⟩
  have tm := hr.far HX2.out.2 hne
  have c2 : w3.cell? ⟨M, 2, none⟩ = some (.int .i64 0) := tm.cell 2
  have f2 := tm.free 2
  have HY3 := Lib.hid (And.intro (Tk2.take HX2.out.1 hr) tm)
  clear hr tm
  go_wp2_with fail
  obtain ⟨V3, hV⟩ : ∃ V, V = w3.setCell ⟨M, 2, none⟩ (.int .i64 pc1) := ⟨_, rfl⟩
  rw [← hV]
  have HX3 := Lib.hid (show Tk2 w B M pc2 pc3 V3 ∧ TBox V3 M 31 #[.int .i64 pa1, .int .i64 pb1, .int .i64 pc1, .int .i64 0, .int .i64 0, .int .i64 0, .int .i64 0, .int .i64 0, .int .i64 0, .string ⟨#[]⟩, .slice none 0 0] from by
    rw [hV]
    exact ⟨Tk2.set HY3.out.1 hne' _ _, HY3.out.2.set 2 _⟩)
  clear hV c2 f2
  refine (Hpd.out V3 _ (HX3.out.1.1 _ _ HT0.out.1) (box_get0 HT0.out.2.2) (box_get1 HT0.out.2.2)).mono ?_
  rintro e w4 ⟨rfl, hr⟩
  have tm := hr.far HX3.out.2 hne
  have c3 : w4.cell? ⟨M, 3, none⟩ = some (.int .i64 0) := tm.cell 3
  have f3 := tm.free 3
  have HY4 := Lib.hid (And.intro (Tk2.take HX3.out.1 hr) tm)
  clear hr tm
  go_wp2_with fail
  obtain ⟨V4, hV⟩ : ∃ V, V = w4.setCell ⟨M, 3, none⟩ (.int .i64 pd1) := ⟨_, rfl⟩
  rw [← hV]
  have HX4 := Lib.hid (show Tk2 w B M pd2 pd3 V4 ∧ TBox V4 M 31 #[.int .i64 pa1, .int .i64 pb1, .int .i64 pc1, .int .i64 pd1, .int .i64 0, .int .i64 0, .int .i64 0, .int .i64 0, .int .i64 0, .string ⟨#[]⟩, .slice none 0 0] from by
    rw [hV]
    exact ⟨Tk2.set HY4.out.1 hne' _ _, HY4.out.2.set 3 _⟩)
  clear hV c3 f3
  refine (Hpe.out V4 _ (HX4.out.1.1 _ _ HT0.out.1) (box_get0 HT0.out.2.2) (box_get1 HT0.out.2.2)).mono ?_
  rintro e w5 ⟨rfl, hr⟩
  have tm := hr.far HX4.out.2 hne
  have c4 : w5.cell? ⟨M, 4, none⟩ = some (.int .i64 0) := tm.cell 4
  have f4 := tm.free 4
  have HY5 := Lib.hid (And.intro (Tk2.take HX4.out.1 hr) tm)
  clear hr tm
  go_wp2_with fail
  obtain ⟨V5, hV⟩ : ∃ V, V = w5.setCell ⟨M, 4, none⟩ (.int .i64 pe1) := ⟨_, rfl⟩
  rw [← hV]
  have HX5 := Lib.hid (show Tk2 w B M pe2 pe3 V5 ∧ TBox V5 M 31 #[.int .i64 pa1, .int .i64 pb1, .int .i64 pc1, .int .i64 pd1, .int .i64 pe1, .int .i64 0, .int .i64 0, .int .i64 0, .int .i64 0, .string ⟨#[]⟩, .slice none 0 0] from by
    rw [hV]
    exact ⟨Tk2.set HY5.out.1 hne' _ _, HY5.out.2.set 4 _⟩)
  clear hV c4 f4
  refine (Hpf.out V5 _ (HX5.out.1.1 _ _ HT0.out.1) (box_get0 HT0.out.2.2) (box_get1 HT0.out.2.2)).mono ?_
  rintro e w6 ⟨A, cp, rfl, ho, hr⟩
  have tm := hr.far HX5.out.2 hne
  have c5 : w6.cell? ⟨M, 5, none⟩ = some (.int .i64 0) := tm.cell 5
  have f5 := tm.free 5
  have c6 : w6.cell? ⟨M, 6, none⟩ = some (.int .i64 0) := tm.cell 6
  have f6 := tm.free 6
  have c7 : w6.cell? ⟨M, 7, none⟩ = some (.int .i64 0) := tm.cell 7
  have f7 := tm.free 7
  have c8 : w6.cell? ⟨M, 8, none⟩ = some (.int .i64 0) := tm.cell 8
  have f8 := tm.free 8
  have c9 : w6.cell? ⟨M, 9, none⟩ = some (.string ⟨#[]⟩) := tm.cell 9
  have f9 := tm.free 9
  have c10 : w6.cell? ⟨M, 10, none⟩ = some (.slice none 0 0) := tm.cell 10
  have f10 := tm.free 10
  have HY6 := Lib.hid (And.intro (Tk2.take HX5.out.1 hr) tm)
  have hsz5 := HX5.out.1.2.2.1
  have HO := Lib.hid (owns_base ho hsz5)
  clear ho
  clear hr tm
  go_wp2_with fail
  refine bodyPost_end (v := .tuple #[]) (by simp [results, Try.results46, go_sem]) rfl ⟨rfl, ?_, A, cp, ?_, ?_⟩
  · exact Tk2.set (Tk2.set (Tk2.set (Tk2.set (Tk2.set (Tk2.set HY6.out.1 hne' 5 _) hne' 6 _) hne' 7 _) hne' 8 _) hne' 9 _) hne' 10 _
  · exact rsp_set6 HY6.out.2 _ _ _ _ _ _
  · exact owns_setCell (owns_setCell (owns_setCell (owns_setCell (owns_setCell (owns_setCell HO.out ⟨M, 5, none⟩ _ hM) ⟨M, 6, none⟩ _ hM) ⟨M, 7, none⟩ _ hM) ⟨M, 8, none⟩ _ hM) ⟨M, 9, none⟩ _ hM) ⟨M, 10, none⟩ _ hM
end Go.Proofs.Ytpojhcpkmpbflaa
