/- wire.taking's parts: a number, a text, a row of texts, whatever the error is; a call. Each answers as the document says, and leaves what is left in its box. -/
import Derived.Test.YtpojhcpkmpbflaaWireLay
import Derived.Test.YtpojhcpkmpbflaaOctTakeList
set_option linter.unusedVariables false
set_option linter.unusedSimpArgs false
namespace Go.Proofs.Ytpojhcpkmpbflaa
open Go.RowKit Copyhold

theorem TakeR.set_far {w w' : World} {B : Nat} {s : List UInt8} {e : Int} (h : TakeR w B s e w') (b o : Nat) (v : Value) (hb : w.heap.size ≤ b) (hB : B < w.heap.size) : TakeR w B s e (w'.setCell ⟨b, o, none⟩ v) := by
  refine ⟨fun T cs hT => (h.1 T cs hT).far _ _ _ (by omega), fun k hk hs => ?_, ?_, fun base a ha h1 h2 => ?_⟩
  · rw [heap_setCell_far _ _ _ _ (by simp; omega)]
    exact h.2.1 k hk hs
  · have := h.2.2.1
    simpa using this
  · exact (h.2.2.2 base a ha h1 h2).setCell (p := ⟨b, o, none⟩) (Nat.le_trans h2 hb) _
theorem TakeR.of_below {w W0 w' : World} {B : Nat} {s : List UInt8} {e : Int} (hb : Below w.heap.size w W0) (hB : B < w.heap.size) (h : TakeR W0 B s e w') : TakeR w B s e w' := by
  have hs := hb.size
  refine ⟨fun T cs hT => h.1 T cs (hT.below hb), fun k hk hk2 => ?_, Nat.le_trans hs h.2.2.1, fun base a ha h1 h2 => ?_⟩
  · rw [h.2.1 k hk (Nat.lt_of_lt_of_le hk2 hs)]
    exact hb.block k hk2
  · exact h.2.2.2 base a (ha.trans (hb.mono h2)) h1 (Nat.le_trans h2 hs)
/-- more new memory behind it -/
theorem TakeR.more {w w' w2 : World} {B : Nat} {s : List UInt8} {e : Int} (h : TakeR w B s e w') (hB : B < w.heap.size) (hb : Below w'.heap.size w' w2) : TakeR w B s e w2 := by
  have hs := h.2.2.1
  refine ⟨fun T cs hT => (h.1 T cs hT).below hb, fun k hk hk2 => ?_, Nat.le_trans hs hb.size, fun base a ha h1 h2 => ?_⟩
  · rw [hb.block k (Nat.lt_of_lt_of_le hk2 hs)]
    exact h.2.1 k hk hk2
  · exact (h.2.2.2 base a ha h1 h2).trans (hb.mono (Nat.le_trans h2 hs))

set_option maxHeartbeats 2000000 in
theorem taking_number (l : List UInt8) (B : Nat) (w : World) (hb : BoxT w B l 0) (hl : l.length ≤ 140737488355328) :
    Calls Try.prog 44 #[.pointer (some ⟨B, 0, none⟩)] w fun e w' => e = .returned (.int .i64 (takeWhole l).1) ∧ TakeW w B (takeWhole l).2.1 (takeWhole l).2.2 w' := by
  obtain ⟨c0, c1, f0, f1⟩ := hb
  have hB := cell_lt c0
  have hbd := takeNum_bd l
  have HT := Lib.hid (octet_TakeNum l w hl)
  have HD : Hid (takeWhole l = (unfoldN ((takeNum l).1 : Int), (takeNum l).2.1, (takeNum l).2.2)) := Lib.hid rfl
  generalize takeNum l = x at *
  obtain ⟨n, r, e⟩ := x
  simp only at HT HD hbd
  have HU := Lib.hid (fun W => octet_Unfold (n : Int) W (by omega) (by omega))
  have HBD := Lib.hid hbd
  clear hbd
  go_enter Try.func44, Try.ntmps44
  go_wp2_with fail
  refine HT.out.mono ?_
  rintro e w1 ⟨rfl, hb1⟩
  have d0 := cell_keep hb1 c0
  have d1 := cell_keep hb1 c1
  have g0 := ((bcell hb1).2 B 0 hB).trans f0
  have g1 := ((bcell hb1).2 B 1 hB).trans f1
  have HB1 := Lib.hid hb1
  clear hb1 c0 c1 f0 f1
  go_wp2_with fail
  refine (HU.out _).mono ?_
  rintro e w2 ⟨rfl, rfl⟩
  go_wp2_with fail
  go_ret
  exact ⟨by rw [HD.out]; rfl, _, HB1.out, by rw [HD.out]⟩

set_option maxHeartbeats 2000000 in
theorem taking_number_no (l : List UInt8) (err : Int) (B : Nat) (w : World) (hb : BoxT w B l err) (he : err ≠ 0) :
    Calls Try.prog 44 #[.pointer (some ⟨B, 0, none⟩)] w fun e w' => e = .returned (.int .i64 0) ∧ w = w' := by
  obtain ⟨c0, c1, f0, f1⟩ := hb
  have hB := cell_lt c0
  have hne : (err == 0) = false := by simpa using he
  clear he
  go_enter Try.func44, Try.ntmps44
  go_wp2_with fail
  go_ret
  exact ⟨rfl, rfl⟩

set_option maxHeartbeats 2000000 in
theorem taking_text_no (l : List UInt8) (err : Int) (B : Nat) (w : World) (hb : BoxT w B l err) (he : err ≠ 0) :
    Calls Try.prog 59 #[.pointer (some ⟨B, 0, none⟩)] w fun e w' => e = .returned (.string ⟨#[]⟩) ∧ w = w' := by
  obtain ⟨c0, c1, f0, f1⟩ := hb
  have hB := cell_lt c0
  have hne : (err == 0) = false := by simpa using he
  clear he
  go_enter Try.func59, Try.ntmps59
  go_wp2_with fail
  go_ret
  exact ⟨rfl, rfl⟩

set_option maxHeartbeats 2000000 in
theorem taking_names_no (l : List UInt8) (err : Int) (B : Nat) (w : World) (hb : BoxT w B l err) (he : err ≠ 0) :
    Calls Try.prog 68 #[.pointer (some ⟨B, 0, none⟩)] w fun e w' => e = .returned (.slice none 0 0) ∧ w = w' := by
  obtain ⟨c0, c1, f0, f1⟩ := hb
  have hB := cell_lt c0
  have hne : (err == 0) = false := by simpa using he
  clear he
  go_enter Try.func68, Try.ntmps68
  go_wp2_with fail
  go_ret
  exact ⟨rfl, rfl⟩

set_option maxHeartbeats 2000000 in
theorem taking_text (l : List UInt8) (B : Nat) (w : World) (hb : BoxT w B l 0) (hl : l.length ≤ 140737488355328) :
    Calls Try.prog 59 #[.pointer (some ⟨B, 0, none⟩)] w fun e w' => e = .returned (.string ⟨(takeText l 4096).1.toArray⟩) ∧ TakeW w B (takeText l 4096).2.1 (takeText l 4096).2.2 w' := by
  obtain ⟨c0, c1, f0, f1⟩ := hb
  have hB := cell_lt c0
  have HT := Lib.hid (octet_TakeText l 4096 w hl (by decide) (by decide))
  generalize takeText l 4096 = x at *
  obtain ⟨n, r, e⟩ := x
  simp only at HT
  go_enter Try.func59, Try.ntmps59
  go_wp2_with fail
  refine HT.out.mono ?_
  rintro e w1 ⟨rfl, hb1⟩
  have d0 := cell_keep hb1 c0
  have d1 := cell_keep hb1 c1
  have g0 := ((bcell hb1).2 B 0 hB).trans f0
  have g1 := ((bcell hb1).2 B 1 hB).trans f1
  have HB1 := Lib.hid hb1
  clear hb1 c0 c1 f0 f1
  go_wp2_with fail
  go_ret
  exact ⟨rfl, _, HB1.out, rfl⟩

theorem taking_numberS (l : List UInt8) (err : Int) (B : Nat) (T : TypeId) (cs : Array Value) (w : World) (hb : TBox w B T cs) (h0 : cs[0]? = some (.string ⟨l.toArray⟩)) (h1 : cs[1]? = some (.int .i64 err)) (hl : l.length ≤ 140737488355328) :
    Calls Try.prog 44 #[.pointer (some ⟨B, 0, none⟩)] w fun e w' => e = .returned (.int .i64 (numSt l err).1) ∧ TakeR w B (numSt l err).2.1 (numSt l err).2.2 w' := by
  by_cases he : err = 0
  · subst he
    rw [numSt, stP_zero]
    exact (taking_number l B w (hb.boxT h0 h1) hl).mono fun e w' ⟨h, k⟩ => ⟨h, k.r⟩
  · rw [numSt, stP_bad he]
    exact (taking_number_no l err B w (hb.boxT h0 h1) he).mono fun e w' ⟨h, k⟩ => ⟨h, k ▸ TakeR.refl hb h0 h1⟩

theorem taking_textS (l : List UInt8) (err : Int) (B : Nat) (T : TypeId) (cs : Array Value) (w : World) (hb : TBox w B T cs) (h0 : cs[0]? = some (.string ⟨l.toArray⟩)) (h1 : cs[1]? = some (.int .i64 err)) (hl : l.length ≤ 140737488355328) :
    Calls Try.prog 59 #[.pointer (some ⟨B, 0, none⟩)] w fun e w' => e = .returned (.string ⟨(textSt l err).1.toArray⟩) ∧ TakeR w B (textSt l err).2.1 (textSt l err).2.2 w' := by
  by_cases he : err = 0
  · subst he
    rw [textSt, stP_zero]
    exact (taking_text l B w (hb.boxT h0 h1) hl).mono fun e w' ⟨h, k⟩ => ⟨h, k.r⟩
  · rw [textSt, stP_bad he]
    exact (taking_text_no l err B w (hb.boxT h0 h1) he).mono fun e w' ⟨h, k⟩ => ⟨h, k ▸ TakeR.refl hb h0 h1⟩

set_option maxRecDepth 100000 in
set_option maxHeartbeats 16000000 in
theorem taking_call (l : List UInt8) (err : Int) (B : Nat) (T : TypeId) (cs : Array Value) (w : World) (hb : TBox w B T cs) (h0 : cs[0]? = some (.string ⟨l.toArray⟩)) (h1 : cs[1]? = some (.int .i64 err)) (hl : l.length ≤ 140737488355328) :
    Calls Try.prog 39 #[.pointer (some ⟨B, 0, none⟩)] w fun e w' => e = .returned (callV (callSt l err).1) ∧ TakeR w B (callSt l err).2.1 (callSt l err).2.2 w' := by
  have hB := hb.lt
  have hbd := (callT_bd l err).1
  have hE : callSt l err = (callT l err).out := rfl
  rw [hE]
  unfold CallT.out callT at *
  dsimp only at hbd ⊢
  have Hpa := Lib.hid (fun W cs (h : TBox W B T cs) (h0 : cs[0]? = some (.string ⟨(l : List UInt8).toArray⟩)) (h1 : cs[1]? = some (.int .i64 err)) => taking_numberS l err B T cs W h h0 h1 (by omega))
  generalize numSt l err = pa at *
  obtain ⟨pa1, pa2, pa3⟩ := pa
  dsimp only at hbd Hpa ⊢
  have Hpb := Lib.hid (fun W cs (h : TBox W B T cs) (h0 : cs[0]? = some (.string ⟨(pa2 : List UInt8).toArray⟩)) (h1 : cs[1]? = some (.int .i64 pa3)) => taking_numberS pa2 pa3 B T cs W h h0 h1 (by omega))
  generalize numSt pa2 pa3 = pb at *
  obtain ⟨pb1, pb2, pb3⟩ := pb
  dsimp only at hbd Hpb ⊢
  have Hpc := Lib.hid (fun W cs (h : TBox W B T cs) (h0 : cs[0]? = some (.string ⟨(pb2 : List UInt8).toArray⟩)) (h1 : cs[1]? = some (.int .i64 pb3)) => taking_numberS pb2 pb3 B T cs W h h0 h1 (by omega))
  generalize numSt pb2 pb3 = pc at *
  obtain ⟨pc1, pc2, pc3⟩ := pc
  dsimp only at hbd Hpc ⊢
  have Hpd := Lib.hid (fun W cs (h : TBox W B T cs) (h0 : cs[0]? = some (.string ⟨(pc2 : List UInt8).toArray⟩)) (h1 : cs[1]? = some (.int .i64 pc3)) => taking_numberS pc2 pc3 B T cs W h h0 h1 (by omega))
  generalize numSt pc2 pc3 = pd at *
  obtain ⟨pd1, pd2, pd3⟩ := pd
  dsimp only at hbd Hpd ⊢
  have Hpe := Lib.hid (fun W cs (h : TBox W B T cs) (h0 : cs[0]? = some (.string ⟨(pd2 : List UInt8).toArray⟩)) (h1 : cs[1]? = some (.int .i64 pd3)) => taking_numberS pd2 pd3 B T cs W h h0 h1 (by omega))
  generalize numSt pd2 pd3 = pe at *
  obtain ⟨pe1, pe2, pe3⟩ := pe
  dsimp only at hbd Hpe ⊢
  have Hpf := Lib.hid (fun W cs (h : TBox W B T cs) (h0 : cs[0]? = some (.string ⟨(pe2 : List UInt8).toArray⟩)) (h1 : cs[1]? = some (.int .i64 pe3)) => taking_textS pe2 pe3 B T cs W h h0 h1 (by omega))
  generalize textSt pe2 pe3 = pf at *
  obtain ⟨pf1, pf2, pf3⟩ := pf
  dsimp only at hbd Hpf ⊢
  have Hpg := Lib.hid (fun W cs (h : TBox W B T cs) (h0 : cs[0]? = some (.string ⟨(pf2 : List UInt8).toArray⟩)) (h1 : cs[1]? = some (.int .i64 pf3)) => taking_textS pf2 pf3 B T cs W h h0 h1 (by omega))
  generalize textSt pf2 pf3 = pg at *
  obtain ⟨pg1, pg2, pg3⟩ := pg
  dsimp only at hbd Hpg ⊢
  have Hph := Lib.hid (fun W cs (h : TBox W B T cs) (h0 : cs[0]? = some (.string ⟨(pg2 : List UInt8).toArray⟩)) (h1 : cs[1]? = some (.int .i64 pg3)) => taking_textS pg2 pg3 B T cs W h h0 h1 (by omega))
  generalize textSt pg2 pg3 = ph at *
  obtain ⟨ph1, ph2, ph3⟩ := ph
  dsimp only at hbd Hph ⊢
  obtain ⟨W0, hW0⟩ : ∃ W0, W0 = (w.alloc (.cells #[.int .i64 0, .int .i64 0, .int .i64 0, .int .i64 0, .int .i64 0, .string ⟨#[]⟩, .string ⟨#[]⟩, .string ⟨#[]⟩] 23)).alloc (.cells #[.int .i64 0, .int .i64 0, .int .i64 0, .int .i64 0, .int .i64 0, .string ⟨#[]⟩, .string ⟨#[]⟩, .string ⟨#[]⟩] 23) := ⟨_, rfl⟩
  have hb0 : Below w.heap.size w W0 := by rw [hW0]; exact ((Below.refl _ _).alloc (Nat.le_refl _) _).alloc (by simp) _
  have hs0 : W0.heap.size = w.heap.size + 2 := by rw [hW0]; simp
  have tr : TBox W0 w.heap.size 23 #[.int .i64 0, .int .i64 0, .int .i64 0, .int .i64 0, .int .i64 0, .string ⟨#[]⟩, .string ⟨#[]⟩, .string ⟨#[]⟩] := by rw [hW0]; exact (TBox.new _ _ _).below ((Below.refl _ _).alloc (Nat.le_refl _) _)
  have tc : TBox W0 (w.heap.size + 1) 23 #[.int .i64 0, .int .i64 0, .int .i64 0, .int .i64 0, .int .i64 0, .string ⟨#[]⟩, .string ⟨#[]⟩, .string ⟨#[]⟩] := by
    rw [hW0]
    have h := TBox.new (w.alloc (.cells #[.int .i64 0, .int .i64 0, .int .i64 0, .int .i64 0, .int .i64 0, .string ⟨#[]⟩, .string ⟨#[]⟩, .string ⟨#[]⟩] 23)) 23 #[.int .i64 0, .int .i64 0, .int .i64 0, .int .i64 0, .int .i64 0, .string ⟨#[]⟩, .string ⟨#[]⟩, .string ⟨#[]⟩]
    rw [show (w.alloc (.cells #[.int .i64 0, .int .i64 0, .int .i64 0, .int .i64 0, .int .i64 0, .string ⟨#[]⟩, .string ⟨#[]⟩, .string ⟨#[]⟩] 23)).heap.size = w.heap.size + 1 from by simp] at h
    exact h
  have HX0 := Lib.hid (And.intro (TakeR.of_below hb0 hB (TakeR.refl (hb.below hb0) h0 h1)) (And.intro tr tc))
  have HT0 := Lib.hid (And.intro hb (And.intro h0 h1))
  have HW := Lib.hid hW0
  clear hbd hE hb h0 h1 hW0 hb0 tr tc
  go_enter Try.func39, Try.ntmps39
  go_wp2_with fail
  rw [← HW.out]
  refine (Hpa.out W0 _ (HX0.out.1.1 _ _ HT0.out.1) (box_get0 HT0.out.2.2) (box_get1 HT0.out.2.2)).mono ?_
  rintro e w1 ⟨rfl, hr⟩
  have hs1 : w.heap.size + 2 ≤ W0.heap.size := by have := HX0.out.2.2.lt; omega
  have tr := hr.far HX0.out.2.1 (by omega)
  have tc := hr.far HX0.out.2.2 (by omega)
  have hsz1 : w.heap.size + 2 ≤ w1.heap.size := by have := tc.lt; omega
  have c0 : w1.cell? ⟨w.heap.size + 1, 0, none⟩ = some (.int .i64 0) := tc.cell 0
  have f0 := tc.free 0
  have HY1 := Lib.hid (And.intro (HX0.out.1.trans hr) (And.intro tr tc))
  clear hr tr tc
  go_wp2_with fail
  obtain ⟨V1, hV⟩ : ∃ V, V = w1.setCell ⟨w.heap.size + 1, 0, none⟩ (.int .i64 pa1) := ⟨_, rfl⟩
  rw [← hV]
  have HX1 := Lib.hid (show TakeR w B pa2 pa3 V1 ∧ TBox V1 w.heap.size 23 #[.int .i64 0, .int .i64 0, .int .i64 0, .int .i64 0, .int .i64 0, .string ⟨#[]⟩, .string ⟨#[]⟩, .string ⟨#[]⟩] ∧ TBox V1 (w.heap.size + 1) 23 #[.int .i64 pa1, .int .i64 0, .int .i64 0, .int .i64 0, .int .i64 0, .string ⟨#[]⟩, .string ⟨#[]⟩, .string ⟨#[]⟩] from by
    rw [hV]
    exact ⟨TakeR.set_far HY1.out.1 _ _ _ (by omega) hB, HY1.out.2.1.far _ _ _ (by omega), HY1.out.2.2.set 0 _⟩)
  clear hV c0 f0
  refine (Hpb.out V1 _ (HX1.out.1.1 _ _ HT0.out.1) (box_get0 HT0.out.2.2) (box_get1 HT0.out.2.2)).mono ?_
  rintro e w2 ⟨rfl, hr⟩
  have hs2 : w.heap.size + 2 ≤ V1.heap.size := by have := HX1.out.2.2.lt; omega
  have tr := hr.far HX1.out.2.1 (by omega)
  have tc := hr.far HX1.out.2.2 (by omega)
  have hsz2 : w.heap.size + 2 ≤ w2.heap.size := by have := tc.lt; omega
  have c1 : w2.cell? ⟨w.heap.size + 1, 1, none⟩ = some (.int .i64 0) := tc.cell 1
  have f1 := tc.free 1
  have HY2 := Lib.hid (And.intro (HX1.out.1.trans hr) (And.intro tr tc))
  clear hr tr tc
  go_wp2_with fail
  obtain ⟨V2, hV⟩ : ∃ V, V = w2.setCell ⟨w.heap.size + 1, 1, none⟩ (.int .i64 pb1) := ⟨_, rfl⟩
  rw [← hV]
  have HX2 := Lib.hid (show TakeR w B pb2 pb3 V2 ∧ TBox V2 w.heap.size 23 #[.int .i64 0, .int .i64 0, .int .i64 0, .int .i64 0, .int .i64 0, .string ⟨#[]⟩, .string ⟨#[]⟩, .string ⟨#[]⟩] ∧ TBox V2 (w.heap.size + 1) 23 #[.int .i64 pa1, .int .i64 pb1, .int .i64 0, .int .i64 0, .int .i64 0, .string ⟨#[]⟩, .string ⟨#[]⟩, .string ⟨#[]⟩] from by
    rw [hV]
    exact ⟨TakeR.set_far HY2.out.1 _ _ _ (by omega) hB, HY2.out.2.1.far _ _ _ (by omega), HY2.out.2.2.set 1 _⟩)
  clear hV c1 f1
  refine (Hpc.out V2 _ (HX2.out.1.1 _ _ HT0.out.1) (box_get0 HT0.out.2.2) (box_get1 HT0.out.2.2)).mono ?_
  rintro e w3 ⟨rfl, hr⟩
  have hs3 : w.heap.size + 2 ≤ V2.heap.size := by have := HX2.out.2.2.lt; omega
  have tr := hr.far HX2.out.2.1 (by omega)
  have tc := hr.far HX2.out.2.2 (by omega)
  have hsz3 : w.heap.size + 2 ≤ w3.heap.size := by have := tc.lt; omega
  have c2 : w3.cell? ⟨w.heap.size + 1, 2, none⟩ = some (.int .i64 0) := tc.cell 2
  have f2 := tc.free 2
  have HY3 := Lib.hid (And.intro (HX2.out.1.trans hr) (And.intro tr tc))
  clear hr tr tc
  go_wp2_with fail
  obtain ⟨V3, hV⟩ : ∃ V, V = w3.setCell ⟨w.heap.size + 1, 2, none⟩ (.int .i64 pc1) := ⟨_, rfl⟩
  rw [← hV]
  have HX3 := Lib.hid (show TakeR w B pc2 pc3 V3 ∧ TBox V3 w.heap.size 23 #[.int .i64 0, .int .i64 0, .int .i64 0, .int .i64 0, .int .i64 0, .string ⟨#[]⟩, .string ⟨#[]⟩, .string ⟨#[]⟩] ∧ TBox V3 (w.heap.size + 1) 23 #[.int .i64 pa1, .int .i64 pb1, .int .i64 pc1, .int .i64 0, .int .i64 0, .string ⟨#[]⟩, .string ⟨#[]⟩, .string ⟨#[]⟩] from by
    rw [hV]
    exact ⟨TakeR.set_far HY3.out.1 _ _ _ (by omega) hB, HY3.out.2.1.far _ _ _ (by omega), HY3.out.2.2.set 2 _⟩)
  clear hV c2 f2
  refine (Hpd.out V3 _ (HX3.out.1.1 _ _ HT0.out.1) (box_get0 HT0.out.2.2) (box_get1 HT0.out.2.2)).mono ?_
  rintro e w4 ⟨rfl, hr⟩
  have hs4 : w.heap.size + 2 ≤ V3.heap.size := by have := HX3.out.2.2.lt; omega
  have tr := hr.far HX3.out.2.1 (by omega)
  have tc := hr.far HX3.out.2.2 (by omega)
  have hsz4 : w.heap.size + 2 ≤ w4.heap.size := by have := tc.lt; omega
  have c3 : w4.cell? ⟨w.heap.size + 1, 3, none⟩ = some (.int .i64 0) := tc.cell 3
  have f3 := tc.free 3
  have HY4 := Lib.hid (And.intro (HX3.out.1.trans hr) (And.intro tr tc))
  clear hr tr tc
  go_wp2_with fail
  obtain ⟨V4, hV⟩ : ∃ V, V = w4.setCell ⟨w.heap.size + 1, 3, none⟩ (.int .i64 pd1) := ⟨_, rfl⟩
  rw [← hV]
  have HX4 := Lib.hid (show TakeR w B pd2 pd3 V4 ∧ TBox V4 w.heap.size 23 #[.int .i64 0, .int .i64 0, .int .i64 0, .int .i64 0, .int .i64 0, .string ⟨#[]⟩, .string ⟨#[]⟩, .string ⟨#[]⟩] ∧ TBox V4 (w.heap.size + 1) 23 #[.int .i64 pa1, .int .i64 pb1, .int .i64 pc1, .int .i64 pd1, .int .i64 0, .string ⟨#[]⟩, .string ⟨#[]⟩, .string ⟨#[]⟩] from by
    rw [hV]
    exact ⟨TakeR.set_far HY4.out.1 _ _ _ (by omega) hB, HY4.out.2.1.far _ _ _ (by omega), HY4.out.2.2.set 3 _⟩)
  clear hV c3 f3
  refine (Hpe.out V4 _ (HX4.out.1.1 _ _ HT0.out.1) (box_get0 HT0.out.2.2) (box_get1 HT0.out.2.2)).mono ?_
  rintro e w5 ⟨rfl, hr⟩
  have hs5 : w.heap.size + 2 ≤ V4.heap.size := by have := HX4.out.2.2.lt; omega
  have tr := hr.far HX4.out.2.1 (by omega)
  have tc := hr.far HX4.out.2.2 (by omega)
  have hsz5 : w.heap.size + 2 ≤ w5.heap.size := by have := tc.lt; omega
  have c4 : w5.cell? ⟨w.heap.size + 1, 4, none⟩ = some (.int .i64 0) := tc.cell 4
  have f4 := tc.free 4
  have HY5 := Lib.hid (And.intro (HX4.out.1.trans hr) (And.intro tr tc))
  clear hr tr tc
  go_wp2_with fail
  obtain ⟨V5, hV⟩ : ∃ V, V = w5.setCell ⟨w.heap.size + 1, 4, none⟩ (.int .i64 pe1) := ⟨_, rfl⟩
  rw [← hV]
  have HX5 := Lib.hid (show TakeR w B pe2 pe3 V5 ∧ TBox V5 w.heap.size 23 #[.int .i64 0, .int .i64 0, .int .i64 0, .int .i64 0, .int .i64 0, .string ⟨#[]⟩, .string ⟨#[]⟩, .string ⟨#[]⟩] ∧ TBox V5 (w.heap.size + 1) 23 #[.int .i64 pa1, .int .i64 pb1, .int .i64 pc1, .int .i64 pd1, .int .i64 pe1, .string ⟨#[]⟩, .string ⟨#[]⟩, .string ⟨#[]⟩] from by
    rw [hV]
    exact ⟨TakeR.set_far HY5.out.1 _ _ _ (by omega) hB, HY5.out.2.1.far _ _ _ (by omega), HY5.out.2.2.set 4 _⟩)
  clear hV c4 f4
  refine (Hpf.out V5 _ (HX5.out.1.1 _ _ HT0.out.1) (box_get0 HT0.out.2.2) (box_get1 HT0.out.2.2)).mono ?_
  rintro e w6 ⟨rfl, hr⟩
  have hs6 : w.heap.size + 2 ≤ V5.heap.size := by have := HX5.out.2.2.lt; omega
  have tr := hr.far HX5.out.2.1 (by omega)
  have tc := hr.far HX5.out.2.2 (by omega)
  have hsz6 : w.heap.size + 2 ≤ w6.heap.size := by have := tc.lt; omega
  have c5 : w6.cell? ⟨w.heap.size + 1, 5, none⟩ = some (.string ⟨#[]⟩) := tc.cell 5
  have f5 := tc.free 5
  have HY6 := Lib.hid (And.intro (HX5.out.1.trans hr) (And.intro tr tc))
  clear hr tr tc
  go_wp2_with fail
  obtain ⟨V6, hV⟩ : ∃ V, V = w6.setCell ⟨w.heap.size + 1, 5, none⟩ (.string ⟨pf1.toArray⟩) := ⟨_, rfl⟩
  rw [← hV]
  have HX6 := Lib.hid (show TakeR w B pf2 pf3 V6 ∧ TBox V6 w.heap.size 23 #[.int .i64 0, .int .i64 0, .int .i64 0, .int .i64 0, .int .i64 0, .string ⟨#[]⟩, .string ⟨#[]⟩, .string ⟨#[]⟩] ∧ TBox V6 (w.heap.size + 1) 23 #[.int .i64 pa1, .int .i64 pb1, .int .i64 pc1, .int .i64 pd1, .int .i64 pe1, .string ⟨pf1.toArray⟩, .string ⟨#[]⟩, .string ⟨#[]⟩] from by
    rw [hV]
    exact ⟨TakeR.set_far HY6.out.1 _ _ _ (by omega) hB, HY6.out.2.1.far _ _ _ (by omega), HY6.out.2.2.set 5 _⟩)
  clear hV c5 f5
  refine (Hpg.out V6 _ (HX6.out.1.1 _ _ HT0.out.1) (box_get0 HT0.out.2.2) (box_get1 HT0.out.2.2)).mono ?_
  rintro e w7 ⟨rfl, hr⟩
  have hs7 : w.heap.size + 2 ≤ V6.heap.size := by have := HX6.out.2.2.lt; omega
  have tr := hr.far HX6.out.2.1 (by omega)
  have tc := hr.far HX6.out.2.2 (by omega)
  have hsz7 : w.heap.size + 2 ≤ w7.heap.size := by have := tc.lt; omega
  have c6 : w7.cell? ⟨w.heap.size + 1, 6, none⟩ = some (.string ⟨#[]⟩) := tc.cell 6
  have f6 := tc.free 6
  have HY7 := Lib.hid (And.intro (HX6.out.1.trans hr) (And.intro tr tc))
  clear hr tr tc
  go_wp2_with fail
  obtain ⟨V7, hV⟩ : ∃ V, V = w7.setCell ⟨w.heap.size + 1, 6, none⟩ (.string ⟨pg1.toArray⟩) := ⟨_, rfl⟩
  rw [← hV]
  have HX7 := Lib.hid (show TakeR w B pg2 pg3 V7 ∧ TBox V7 w.heap.size 23 #[.int .i64 0, .int .i64 0, .int .i64 0, .int .i64 0, .int .i64 0, .string ⟨#[]⟩, .string ⟨#[]⟩, .string ⟨#[]⟩] ∧ TBox V7 (w.heap.size + 1) 23 #[.int .i64 pa1, .int .i64 pb1, .int .i64 pc1, .int .i64 pd1, .int .i64 pe1, .string ⟨pf1.toArray⟩, .string ⟨pg1.toArray⟩, .string ⟨#[]⟩] from by
    rw [hV]
    exact ⟨TakeR.set_far HY7.out.1 _ _ _ (by omega) hB, HY7.out.2.1.far _ _ _ (by omega), HY7.out.2.2.set 6 _⟩)
  clear hV c6 f6
  refine (Hph.out V7 _ (HX7.out.1.1 _ _ HT0.out.1) (box_get0 HT0.out.2.2) (box_get1 HT0.out.2.2)).mono ?_
  rintro e w8 ⟨rfl, hr⟩
  have hs8 : w.heap.size + 2 ≤ V7.heap.size := by have := HX7.out.2.2.lt; omega
  have tr := hr.far HX7.out.2.1 (by omega)
  have tc := hr.far HX7.out.2.2 (by omega)
  have hsz8 : w.heap.size + 2 ≤ w8.heap.size := by have := tc.lt; omega
  have c0 : w8.cell? ⟨w.heap.size + 1, 0, none⟩ = some (.int .i64 pa1) := tc.cell 0
  have c1 : w8.cell? ⟨w.heap.size + 1, 1, none⟩ = some (.int .i64 pb1) := tc.cell 1
  have c2 : w8.cell? ⟨w.heap.size + 1, 2, none⟩ = some (.int .i64 pc1) := tc.cell 2
  have c3 : w8.cell? ⟨w.heap.size + 1, 3, none⟩ = some (.int .i64 pd1) := tc.cell 3
  have c4 : w8.cell? ⟨w.heap.size + 1, 4, none⟩ = some (.int .i64 pe1) := tc.cell 4
  have c5 : w8.cell? ⟨w.heap.size + 1, 5, none⟩ = some (.string ⟨pf1.toArray⟩) := tc.cell 5
  have c6 : w8.cell? ⟨w.heap.size + 1, 6, none⟩ = some (.string ⟨pg1.toArray⟩) := tc.cell 6
  have c7 : w8.cell? ⟨w.heap.size + 1, 7, none⟩ = some (.string ⟨#[]⟩) := tc.cell 7
  have f7 := tc.free 7
  have r0 : w8.cell? ⟨w.heap.size, 0, none⟩ = some (.int .i64 0) := tr.cell 0
  have g0 := tr.free 0
  have r1 : w8.cell? ⟨w.heap.size, 1, none⟩ = some (.int .i64 0) := tr.cell 1
  have g1 := tr.free 1
  have r2 : w8.cell? ⟨w.heap.size, 2, none⟩ = some (.int .i64 0) := tr.cell 2
  have g2 := tr.free 2
  have r3 : w8.cell? ⟨w.heap.size, 3, none⟩ = some (.int .i64 0) := tr.cell 3
  have g3 := tr.free 3
  have r4 : w8.cell? ⟨w.heap.size, 4, none⟩ = some (.int .i64 0) := tr.cell 4
  have g4 := tr.free 4
  have r5 : w8.cell? ⟨w.heap.size, 5, none⟩ = some (.string ⟨#[]⟩) := tr.cell 5
  have g5 := tr.free 5
  have r6 : w8.cell? ⟨w.heap.size, 6, none⟩ = some (.string ⟨#[]⟩) := tr.cell 6
  have g6 := tr.free 6
  have r7 : w8.cell? ⟨w.heap.size, 7, none⟩ = some (.string ⟨#[]⟩) := tr.cell 7
  have g7 := tr.free 7
  have HY8 := Lib.hid (And.intro (HX7.out.1.trans hr) (And.intro tr tc))
  clear hr tr tc
  go_wp2_with fail
  obtain ⟨V9, hV⟩ : ∃ V, V = (((((((((w8.setCell ⟨w.heap.size + 1, 7, none⟩ (.string ⟨ph1.toArray⟩)).setCell ⟨w.heap.size, 0, none⟩ (.int .i64 pa1)).setCell ⟨w.heap.size, 1, none⟩ (.int .i64 pb1)).setCell ⟨w.heap.size, 2, none⟩ (.int .i64 pc1)).setCell ⟨w.heap.size, 3, none⟩ (.int .i64 pd1)).setCell ⟨w.heap.size, 4, none⟩ (.int .i64 pe1)).setCell ⟨w.heap.size, 5, none⟩ (.string ⟨pf1.toArray⟩)).setCell ⟨w.heap.size, 6, none⟩ (.string ⟨pg1.toArray⟩)).setCell ⟨w.heap.size, 7, none⟩ (.string ⟨ph1.toArray⟩)) := ⟨_, rfl⟩
  rw [← hV]
  have tz : TBox V9 w.heap.size 23 #[.int .i64 pa1, .int .i64 pb1, .int .i64 pc1, .int .i64 pd1, .int .i64 pe1, .string ⟨pf1.toArray⟩, .string ⟨pg1.toArray⟩, .string ⟨ph1.toArray⟩] := by rw [hV]; exact (((((((((HY8.out.2.1.far _ _ _ (by omega)).set 0 _).set 1 _).set 2 _).set 3 _).set 4 _).set 5 _).set 6 _).set 7 _)
  have hz : TakeR w B ph2 ph3 V9 := by rw [hV]; exact (TakeR.set_far (TakeR.set_far (TakeR.set_far (TakeR.set_far (TakeR.set_far (TakeR.set_far (TakeR.set_far (TakeR.set_far (TakeR.set_far HY8.out.1 _ _ _ (by omega) hB) _ _ _ (Nat.le_refl _) hB) _ _ _ (Nat.le_refl _) hB) _ _ _ (Nat.le_refl _) hB) _ _ _ (Nat.le_refl _) hB) _ _ _ (Nat.le_refl _) hB) _ _ _ (Nat.le_refl _) hB) _ _ _ (Nat.le_refl _) hB) _ _ _ (Nat.le_refl _) hB)
  have q0 : V9.cell? ⟨w.heap.size, 0, none⟩ = some (.int .i64 pa1) := tz.cell 0
  have q1 : V9.cell? ⟨w.heap.size, 1, none⟩ = some (.int .i64 pb1) := tz.cell 1
  have q2 : V9.cell? ⟨w.heap.size, 2, none⟩ = some (.int .i64 pc1) := tz.cell 2
  have q3 : V9.cell? ⟨w.heap.size, 3, none⟩ = some (.int .i64 pd1) := tz.cell 3
  have q4 : V9.cell? ⟨w.heap.size, 4, none⟩ = some (.int .i64 pe1) := tz.cell 4
  have q5 : V9.cell? ⟨w.heap.size, 5, none⟩ = some (.string ⟨pf1.toArray⟩) := tz.cell 5
  have q6 : V9.cell? ⟨w.heap.size, 6, none⟩ = some (.string ⟨pg1.toArray⟩) := tz.cell 6
  have q7 : V9.cell? ⟨w.heap.size, 7, none⟩ = some (.string ⟨ph1.toArray⟩) := tz.cell 7
  refine bodyPost_ret (v := .agg #[.int .i64 pa1, .int .i64 pb1, .int .i64 pc1, .int .i64 pd1, .int .i64 pe1, .string ⟨pf1.toArray⟩, .string ⟨pg1.toArray⟩, .string ⟨ph1.toArray⟩]) (by simp [results, Try.results39, go_sem, q0, q1, q2, q3, q4, q5, q6, q7]) rfl ⟨rfl, hz⟩
end Go.Proofs.Ytpojhcpkmpbflaa
