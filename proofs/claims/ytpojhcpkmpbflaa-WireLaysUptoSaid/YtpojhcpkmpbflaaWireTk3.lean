/- wire.TakeMsg's function: it answers as the document says, and leaves what is left in its box, the message in another. -/
import Derived.Test.YtpojhcpkmpbflaaWireTk2
import Derived.Test.YtpojhcpkmpbflaaWireP2
import Derived.Test.YtpojhcpkmpbflaaSet14
set_option linter.unusedVariables false
set_option linter.unusedSimpArgs false
namespace Go.Proofs.Ytpojhcpkmpbflaa
open Go.RowKit Copyhold

/-- what a taker's call leaves, that fills another box M besides -/
def Tk2 (w : World) (B M : Nat) (s : List UInt8) (e : Int) (w' : World) : Prop :=
  (∀ T cs, TBox w B T cs → TBox w' B T ((cs.setIfInBounds 0 (.string ⟨s.toArray⟩)).setIfInBounds 1 (.int .i64 e))) ∧
  (∀ k, k ≠ B → k ≠ M → k < w.heap.size → w'.heap[k]? = w.heap[k]?) ∧ w.heap.size ≤ w'.heap.size ∧
  (∀ base a, Below base a w → base ≤ B → base ≤ M → base ≤ w.heap.size → Below base a w')
theorem Tk2.take {w w' w2 : World} {B M : Nat} {s s2 : List UInt8} {e e2 : Int} (h : Tk2 w B M s e w') (k : TakeR w' B s2 e2 w2) : Tk2 w B M s2 e2 w2 := by
  obtain ⟨h1, h2, h3, h4⟩ := h
  refine ⟨fun T cs hT => ?_, fun j hj hm hs => (k.2.1 j hj (Nat.lt_of_lt_of_le hs h3)).trans (h2 j hj hm hs), Nat.le_trans h3 k.2.2.1, fun base a hb hB hM hs => k.2.2.2 base a (h4 base a hb hB hM hs) hB (Nat.le_trans hs h3)⟩
  have := k.1 T _ (h1 T cs hT)
  have e : (((cs.setIfInBounds 0 (.string ⟨s.toArray⟩)).setIfInBounds 1 (.int .i64 e)).setIfInBounds 0 (.string ⟨s2.toArray⟩)).setIfInBounds 1 (.int .i64 e2) = (cs.setIfInBounds 0 (.string ⟨s2.toArray⟩)).setIfInBounds 1 (.int .i64 e2) := by
    apply Array.ext_getElem?
    intro i
    simp only [Array.getElem?_setIfInBounds, Array.size_setIfInBounds]
    split
    · rfl
    · split
      · rfl
      · rfl
  rw [e] at this
  exact this
theorem Tk2.of {w w' : World} {B M : Nat} {s : List UInt8} {e : Int} (h : TakeR w B s e w') : Tk2 w B M s e w' :=
  ⟨h.1, fun k hk _ hs => h.2.1 k hk hs, h.2.2.1, fun base a hb hB _ hs => h.2.2.2 base a hb hB hs⟩
theorem Tk2.set {w w' : World} {B M : Nat} {s : List UInt8} {e : Int} (h : Tk2 w B M s e w') (hne : B ≠ M) (o : Nat) (v : Value) : Tk2 w B M s e (w'.setCell ⟨M, o, none⟩ v) := by
  obtain ⟨h1, h2, h3, h4⟩ := h
  refine ⟨fun T cs hT => (h1 T cs hT).far _ _ _ hne, fun k hk hm hs => ?_, by simpa using h3, fun base a hb hB hM hs => (h4 base a hb hB hM hs).setCell (p := ⟨M, o, none⟩) hM _⟩
  rw [heap_setCell_far _ _ _ _ (by simpa using hm)]
  exact h2 k hk hm hs
theorem Tk2.set8 {w w' : World} {B M : Nat} {s : List UInt8} {e : Int} (h : Tk2 w B M s e w') (hne : B ≠ M) (i0 i1 i2 i3 i4 i5 i6 i7 : Nat) (x0 x1 x2 x3 x4 x5 x6 x7 : Value) :
    Tk2 w B M s e ((((((((w'.setCell ⟨M, i0, none⟩ x0).setCell ⟨M, i1, none⟩ x1).setCell ⟨M, i2, none⟩ x2).setCell ⟨M, i3, none⟩ x3).setCell ⟨M, i4, none⟩ x4).setCell ⟨M, i5, none⟩ x5).setCell ⟨M, i6, none⟩ x6).setCell ⟨M, i7, none⟩ x7) :=
  Tk2.set (Tk2.set (Tk2.set (Tk2.set (Tk2.set (Tk2.set (Tk2.set (Tk2.set h hne i0 x0) hne i1 x1) hne i2 x2) hne i3 x3) hne i4 x4) hne i5 x5) hne i6 x6) hne i7 x7
/-- the last eight cells of a message's box, set -/
theorem msg_set8 {V : World} {g : Nat} {T : TypeId} {a b c d e f z0 z1 z2 z3 z4 z5 z6 z7 : Value} (h : TBox V g T #[a, b, c, d, e, f, z0, z1, z2, z3, z4, z5, z6, z7]) (x0 x1 x2 x3 x4 x5 x6 x7 : Value) :
    TBox ((((((((V.setCell ⟨g, 6, none⟩ x0).setCell ⟨g, 7, none⟩ x1).setCell ⟨g, 8, none⟩ x2).setCell ⟨g, 9, none⟩ x3).setCell ⟨g, 10, none⟩ x4).setCell ⟨g, 11, none⟩ x5).setCell ⟨g, 12, none⟩ x6).setCell ⟨g, 13, none⟩ x7) g T #[a, b, c, d, e, f, x0, x1, x2, x3, x4, x5, x6, x7] := by
  have h := (((((((h.set 6 x0).set 7 x1).set 8 x2).set 9 x3).set 10 x4).set 11 x5).set 12 x6).set 13 x7
  simpa only [List.setIfInBounds_toArray, List.set_cons_zero, List.set_cons_succ] using h

set_option maxRecDepth 100000 in
set_option maxHeartbeats 16000000 in
theorem takeMsg_fill (l : List UInt8) (err : Int) (B M : Nat) (T : TypeId) (cs : Array Value) (w : World) (hb : TBox w B T cs) (h0 : cs[0]? = some (.string ⟨l.toArray⟩)) (h1 : cs[1]? = some (.int .i64 err)) (hm : TBox w M 25 #[.int .i64 0, .int .i64 0, .int .i64 0, .int .i64 0, .int .i64 0, .int .i64 0, .int .i64 0, .int .i64 0, .int .i64 0, .int .i64 0, .int .i64 0, .string ⟨#[]⟩, .string ⟨#[]⟩, .string ⟨#[]⟩]) (hne : M ≠ B) (hl : l.length ≤ 140737488355328) :
    Calls Try.prog 43 #[.pointer (some ⟨B, 0, none⟩), .pointer (some ⟨M, 0, none⟩)] w fun e w' => e = .returned (.tuple #[]) ∧ Tk2 w B M (msgSt l err).2.1 (msgSt l err).2.2 w' ∧ TBox w' M 25 (msgCells (msgSt l err).1) := by
  have hbd := (msgT_bd l err).1
  have hE : msgSt l err = (msgT l err).out := rfl
  rw [hE]
  unfold MsgT.out msgT at *
  dsimp only at hbd ⊢
  have Hpa := Lib.hid (fun W cs (h : TBox W B T cs) (h0 : cs[0]? = some (.string ⟨(l : List UInt8).toArray⟩)) (h1 : cs[1]? = some (.int .i64 err)) => taking_numberS l err B T cs W h h0 h1 (by omega))
  generalize numSt l err = pa at *
  obtain ⟨pa1, pa2, pa3⟩ := pa
  dsimp only at hbd Hpa ⊢
  have Hpb := Lib.hid (fun W cs (h : TBox W B T cs) (h0 : cs[0]? = some (.string ⟨(pa2 : List UInt8).toArray⟩)) (h1 : cs[1]? = some (.int .i64 pa3)) => taking_numberS pa2 pa3 B T cs W h h0 h1 (by omega))
  generalize numSt pa2 pa3 = pb at *
  obtain ⟨pb1, pb2, pb3⟩ := pb
  dsimp only at hbd Hpb ⊢
  have Hpc := Lib.hid (fun W cs (h : TBox W B T cs) (h0 : cs[0]? = some (.string ⟨(pb2 : List UInt8).toArray⟩)) (h1 : cs[1]? = some (.int .i64 pb3)) => taking_numberS pb2 pb3 B T cs W h h0 h1 (by omega))
  generalize numSt pb2 pb3 = pc at *
  obtain ⟨pc1, pc2, pc3⟩ := pc
  dsimp only at hbd Hpc ⊢
  have Hpd := Lib.hid (fun W cs (h : TBox W B T cs) (h0 : cs[0]? = some (.string ⟨(pc2 : List UInt8).toArray⟩)) (h1 : cs[1]? = some (.int .i64 pc3)) => taking_numberS pc2 pc3 B T cs W h h0 h1 (by omega))
  generalize numSt pc2 pc3 = pd at *
  obtain ⟨pd1, pd2, pd3⟩ := pd
  dsimp only at hbd Hpd ⊢
  have Hpe := Lib.hid (fun W cs (h : TBox W B T cs) (h0 : cs[0]? = some (.string ⟨(pd2 : List UInt8).toArray⟩)) (h1 : cs[1]? = some (.int .i64 pd3)) => taking_numberS pd2 pd3 B T cs W h h0 h1 (by omega))
  generalize numSt pd2 pd3 = pe at *
  obtain ⟨pe1, pe2, pe3⟩ := pe
  dsimp only at hbd Hpe ⊢
  have Hpf := Lib.hid (fun W cs (h : TBox W B T cs) (h0 : cs[0]? = some (.string ⟨(pe2 : List UInt8).toArray⟩)) (h1 : cs[1]? = some (.int .i64 pe3)) => taking_numberS pe2 pe3 B T cs W h h0 h1 (by omega))
  generalize numSt pe2 pe3 = pf at *
  obtain ⟨pf1, pf2, pf3⟩ := pf
  dsimp only at hbd Hpf ⊢
  have Hpg := Lib.hid (fun W cs (h : TBox W B T cs) (h0 : cs[0]? = some (.string ⟨(pf2 : List UInt8).toArray⟩)) (h1 : cs[1]? = some (.int .i64 pf3)) => taking_call pf2 pf3 B T cs W h h0 h1 (by omega))
  generalize callSt pf2 pf3 = pg at *
  obtain ⟨pg1, pg2, pg3⟩ := pg
  dsimp only at hbd Hpg ⊢
  obtain ⟨k1, k2, k3, k4, k5, t1, t2, t3⟩ := pg1
  have HX0 := Lib.hid (And.intro (Tk2.of (M := M) (TakeR.refl hb h0 h1)) hm)
  have HT0 := Lib.hid (And.intro hb (And.intro h0 h1))
  have hB := hb.lt
  have hne' : B ≠ M := fun h => hne h.symm
  clear hbd hE hb h0 h1 hm
  go_enter Try.func43, Try.ntmps43
  go_wp2_with fail
  refine (Hpa.out w _ (HX0.out.1.1 _ _ HT0.out.1) (box_get0 HT0.out.2.2) (box_get1 HT0.out.2.2)).mono ?_
  rintro e w1 ⟨rfl, hr⟩
  have tm := hr.far HX0.out.2 hne
  have c0 : w1.cell? ⟨M, 0, none⟩ = some (.int .i64 0) := tm.cell 0
  have f0 := tm.free 0
  have HY1 := Lib.hid (And.intro (Tk2.take HX0.out.1 hr) tm)
  clear hr tm
  go_wp2_with fail
  obtain ⟨V1, hV⟩ : ∃ V, V = w1.setCell ⟨M, 0, none⟩ (.int .i64 pa1) := ⟨_, rfl⟩
  rw [← hV]
  have HX1 := Lib.hid (show Tk2 w B M pa2 pa3 V1 ∧ TBox V1 M 25 #[.int .i64 pa1, .int .i64 0, .int .i64 0, .int .i64 0, .int .i64 0, .int .i64 0, .int .i64 0, .int .i64 0, .int .i64 0, .int .i64 0, .int .i64 0, .string ⟨#[]⟩, .string ⟨#[]⟩, .string ⟨#[]⟩] from by
    rw [hV]
    exact ⟨Tk2.set HY1.out.1 hne' _ _, HY1.out.2.set 0 _⟩)
  clear hV c0 f0
  refine (Hpb.out V1 _ (HX1.out.1.1 _ _ HT0.out.1) (box_get0 HT0.out.2.2) (box_get1 HT0.out.2.2)).mono ?_
  rintro e w2 ⟨rfl, hr⟩
  have tm := hr.far HX1.out.2 hne
  have c1 : w2.cell? ⟨M, 1, none⟩ = some (.int .i64 0) := tm.cell 1
  have f1 := tm.free 1
  have HY2 := Lib.hid (And.intro (Tk2.take HX1.out.1 hr) tm)
  clear hr tm
  go_wp2_with fail
  obtain ⟨V2, hV⟩ : ∃ V, V = w2.setCell ⟨M, 1, none⟩ (.int .i64 pb1) := ⟨_, rfl⟩
  rw [← hV]
  have HX2 := Lib.hid (show Tk2 w B M pb2 pb3 V2 ∧ TBox V2 M 25 #[.int .i64 pa1, .int .i64 pb1, .int .i64 0, .int .i64 0, .int .i64 0, .int .i64 0, .int .i64 0, .int .i64 0, .int .i64 0, .int .i64 0, .int .i64 0, .string ⟨#[]⟩, .string ⟨#[]⟩, .string ⟨#[]⟩] from by
    rw [hV]
    exact ⟨Tk2.set HY2.out.1 hne' _ _, HY2.out.2.set 1 _⟩)
  clear hV c1 f1
  refine (Hpc.out V2 _ (HX2.out.1.1 _ _ HT0.out.1) (box_get0 HT0.out.2.2) (box_get1 HT0.out.2.2)).mono ?_
  rintro e w3 ⟨rfl, hr⟩
  have tm := hr.far HX2.out.2 hne
  have c2 : w3.cell? ⟨M, 2, none⟩ = some (.int .i64 0) := tm.cell 2
  have f2 := tm.free 2
  have HY3 := Lib.hid (And.intro (Tk2.take HX2.out.1 hr) tm)
  clear hr tm
  go_wp2_with fail
  obtain ⟨V3, hV⟩ : ∃ V, V = w3.setCell ⟨M, 2, none⟩ (.int .i64 pc1) := ⟨_, rfl⟩
  rw [← hV]
  have HX3 := Lib.hid (show Tk2 w B M pc2 pc3 V3 ∧ TBox V3 M 25 #[.int .i64 pa1, .int .i64 pb1, .int .i64 pc1, .int .i64 0, .int .i64 0, .int .i64 0, .int .i64 0, .int .i64 0, .int .i64 0, .int .i64 0, .int .i64 0, .string ⟨#[]⟩, .string ⟨#[]⟩, .string ⟨#[]⟩] from by
    rw [hV]
    exact ⟨Tk2.set HY3.out.1 hne' _ _, HY3.out.2.set 2 _⟩)
  clear hV c2 f2
  refine (Hpd.out V3 _ (HX3.out.1.1 _ _ HT0.out.1) (box_get0 HT0.out.2.2) (box_get1 HT0.out.2.2)).mono ?_
  rintro e w4 ⟨rfl, hr⟩
  have tm := hr.far HX3.out.2 hne
  have c3 : w4.cell? ⟨M, 3, none⟩ = some (.int .i64 0) := tm.cell 3
  have f3 := tm.free 3
  have HY4 := Lib.hid (And.intro (Tk2.take HX3.out.1 hr) tm)
  clear hr tm
  go_wp2_with fail
  obtain ⟨V4, hV⟩ : ∃ V, V = w4.setCell ⟨M, 3, none⟩ (.int .i64 pd1) := ⟨_, rfl⟩
  rw [← hV]
  have HX4 := Lib.hid (show Tk2 w B M pd2 pd3 V4 ∧ TBox V4 M 25 #[.int .i64 pa1, .int .i64 pb1, .int .i64 pc1, .int .i64 pd1, .int .i64 0, .int .i64 0, .int .i64 0, .int .i64 0, .int .i64 0, .int .i64 0, .int .i64 0, .string ⟨#[]⟩, .string ⟨#[]⟩, .string ⟨#[]⟩] from by
    rw [hV]
    exact ⟨Tk2.set HY4.out.1 hne' _ _, HY4.out.2.set 3 _⟩)
  clear hV c3 f3
  refine (Hpe.out V4 _ (HX4.out.1.1 _ _ HT0.out.1) (box_get0 HT0.out.2.2) (box_get1 HT0.out.2.2)).mono ?_
  rintro e w5 ⟨rfl, hr⟩
  have tm := hr.far HX4.out.2 hne
  have c4 : w5.cell? ⟨M, 4, none⟩ = some (.int .i64 0) := tm.cell 4
  have f4 := tm.free 4
  have HY5 := Lib.hid (And.intro (Tk2.take HX4.out.1 hr) tm)
  clear hr tm
  go_wp2_with fail
  obtain ⟨V5, hV⟩ : ∃ V, V = w5.setCell ⟨M, 4, none⟩ (.int .i64 pe1) := ⟨_, rfl⟩
  rw [← hV]
  have HX5 := Lib.hid (show Tk2 w B M pe2 pe3 V5 ∧ TBox V5 M 25 #[.int .i64 pa1, .int .i64 pb1, .int .i64 pc1, .int .i64 pd1, .int .i64 pe1, .int .i64 0, .int .i64 0, .int .i64 0, .int .i64 0, .int .i64 0, .int .i64 0, .string ⟨#[]⟩, .string ⟨#[]⟩, .string ⟨#[]⟩] from by
    rw [hV]
    exact ⟨Tk2.set HY5.out.1 hne' _ _, HY5.out.2.set 4 _⟩)
  clear hV c4 f4
  refine (Hpf.out V5 _ (HX5.out.1.1 _ _ HT0.out.1) (box_get0 HT0.out.2.2) (box_get1 HT0.out.2.2)).mono ?_
  rintro e w6 ⟨rfl, hr⟩
  have tm := hr.far HX5.out.2 hne
  have c5 : w6.cell? ⟨M, 5, none⟩ = some (.int .i64 0) := tm.cell 5
  have f5 := tm.free 5
  have HY6 := Lib.hid (And.intro (Tk2.take HX5.out.1 hr) tm)
  clear hr tm
  go_wp2_with fail
  obtain ⟨V6, hV⟩ : ∃ V, V = w6.setCell ⟨M, 5, none⟩ (.int .i64 pf1) := ⟨_, rfl⟩
  rw [← hV]
  have HX6 := Lib.hid (show Tk2 w B M pf2 pf3 V6 ∧ TBox V6 M 25 #[.int .i64 pa1, .int .i64 pb1, .int .i64 pc1, .int .i64 pd1, .int .i64 pe1, .int .i64 pf1, .int .i64 0, .int .i64 0, .int .i64 0, .int .i64 0, .int .i64 0, .string ⟨#[]⟩, .string ⟨#[]⟩, .string ⟨#[]⟩] from by
    rw [hV]
    exact ⟨Tk2.set HY6.out.1 hne' _ _, HY6.out.2.set 5 _⟩)
  clear hV c5 f5
  refine (Hpg.out V6 _ (HX6.out.1.1 _ _ HT0.out.1) (box_get0 HT0.out.2.2) (box_get1 HT0.out.2.2)).mono ?_
  rintro e w7 ⟨rfl, hr⟩
  have tm := hr.far HX6.out.2 hne
  have c6 : w7.cell? ⟨M, 6, none⟩ = some (.int .i64 0) := tm.cell 6
  have f6 := tm.free 6
  have c7 : w7.cell? ⟨M, 7, none⟩ = some (.int .i64 0) := tm.cell 7
  have f7 := tm.free 7
  have c8 : w7.cell? ⟨M, 8, none⟩ = some (.int .i64 0) := tm.cell 8
  have f8 := tm.free 8
  have c9 : w7.cell? ⟨M, 9, none⟩ = some (.int .i64 0) := tm.cell 9
  have f9 := tm.free 9
  have c10 : w7.cell? ⟨M, 10, none⟩ = some (.int .i64 0) := tm.cell 10
  have f10 := tm.free 10
  have c11 : w7.cell? ⟨M, 11, none⟩ = some (.string ⟨#[]⟩) := tm.cell 11
  have f11 := tm.free 11
  have c12 : w7.cell? ⟨M, 12, none⟩ = some (.string ⟨#[]⟩) := tm.cell 12
  have f12 := tm.free 12
  have c13 : w7.cell? ⟨M, 13, none⟩ = some (.string ⟨#[]⟩) := tm.cell 13
  have f13 := tm.free 13
  have HY7 := Lib.hid (And.intro (Tk2.take HX6.out.1 hr) tm)
  clear hr tm
  unfold callV
  simp only
  go_wp2_with fail
  refine bodyPost_end (v := .tuple #[]) (by simp [results, Try.results43, go_sem]) rfl ⟨rfl, ?_, ?_⟩
  · exact Tk2.set8 HY7.out.1 hne' 6 7 8 9 10 11 12 13 _ _ _ _ _ _ _ _
  · exact msg_set8 HY7.out.2 _ _ _ _ _ _ _ _
end Go.Proofs.Ytpojhcpkmpbflaa
