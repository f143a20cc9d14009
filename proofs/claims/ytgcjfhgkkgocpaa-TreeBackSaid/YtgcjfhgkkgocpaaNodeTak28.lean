/- node.taking's parts, whatever the error is: a number, a text, a count, an entry. What node.Take makes of a text, state by state. -/
import Derived.Test.YtgcjfhgkkgocpaaMrgO
set_option linter.unusedVariables false
namespace Go.Proofs.Ytgcjfhgkkgocpaa
open Go.RowKit Copyhold Copyhold.Name
def numSt (s : List UInt8) (e : Int) : Int × List UInt8 × Int := if e = 0 then takeWhole s else (0, s, e)
def textSt (s : List UInt8) (e most : Int) : List UInt8 × List UInt8 × Int := if e = 0 then takeText s most else ([], s, e)
theorem taking_numberS (l : List UInt8) (err : Int) (B : Nat) (T : TypeId) (cs : Array Value) (w : World) (hb : TBox w B T cs) (h0 : cs[0]? = some (.string ⟨l.toArray⟩)) (h1 : cs[1]? = some (.int .i64 err)) (hl : l.length ≤ 140737488355328) :
    Calls Try.prog 45 #[.pointer (some ⟨B, 0, none⟩)] w fun e w' => e = .returned (.int .i64 (numSt l err).1) ∧ TakeR w B (numSt l err).2.1 (numSt l err).2.2 w' := by
  by_cases he : err = 0
  · subst he
    exact (taking_number l B w (hb.boxT h0 h1) hl).mono fun e w' ⟨h, k⟩ => ⟨h, k.r⟩
  · have e1 : numSt l err = (0, l, err) := if_neg he
    rw [e1]
    exact (taking_number_no l err B w (hb.boxT h0 h1) he).mono fun e w' ⟨h, k⟩ => ⟨h, k ▸ TakeR.refl hb h0 h1⟩
theorem taking_textS (l : List UInt8) (err most : Int) (B : Nat) (T : TypeId) (cs : Array Value) (w : World) (hb : TBox w B T cs) (h0 : cs[0]? = some (.string ⟨l.toArray⟩)) (h1 : cs[1]? = some (.int .i64 err)) (hl : l.length ≤ 140737488355328) (m1 : -9223372036854775808 ≤ most) (m2 : most ≤ 9223372036854775807) :
    Calls Try.prog 46 #[.pointer (some ⟨B, 0, none⟩), .int .i64 most] w fun e w' => e = .returned (.string ⟨(textSt l err most).1.toArray⟩) ∧ TakeR w B (textSt l err most).2.1 (textSt l err most).2.2 w' := by
  by_cases he : err = 0
  · subst he
    exact (taking_text l most B w (hb.boxT h0 h1) hl m1 m2).mono fun e w' ⟨h, k⟩ => ⟨h, k.r⟩
  · have e1 : textSt l err most = ([], l, err) := if_neg he
    rw [e1]
    exact (taking_text_no l most err B w (hb.boxT h0 h1) he).mono fun e w' ⟨h, k⟩ => ⟨h, k ▸ TakeR.refl hb h0 h1⟩
def countSt (s : List UInt8) (e most : Int) : Int × List UInt8 × Int := if e = 0 then (countOf s most, (takeNum s).2.1, countErr s most) else (0, s, e)
theorem taking_countS (l : List UInt8) (err most : Int) (B : Nat) (T : TypeId) (cs : Array Value) (w : World) (hb : TBox w B T cs) (h0 : cs[0]? = some (.string ⟨l.toArray⟩)) (h1 : cs[1]? = some (.int .i64 err)) (hl : l.length ≤ 140737488355328) (m1 : 0 ≤ most) (m2 : most ≤ 9223372036854775807) :
    Calls Try.prog 47 #[.pointer (some ⟨B, 0, none⟩), .int .u64 most] w fun e w' => e = .returned (.int .u64 (countSt l err most).1) ∧ TakeR w B (countSt l err most).2.1 (countSt l err most).2.2 w' := by
  by_cases he : err = 0
  · subst he
    exact (taking_count l most B w (hb.boxT h0 h1) hl m1 m2).mono fun e w' ⟨h, k⟩ => ⟨h, k.r⟩
  · have e1 : countSt l err most = (0, l, err) := if_neg he
    rw [e1]
    exact (taking_count_no l most err B w (hb.boxT h0 h1) he).mono fun e w' ⟨h, k⟩ => ⟨h, k ▸ TakeR.refl hb h0 h1⟩
theorem numSt_len (s : List UInt8) (e : Int) : (numSt s e).2.1.length ≤ s.length ∧ (-9223372036854775808 ≤ (numSt s e).1 ∧ (numSt s e).1 ≤ 9223372036854775807) := by
  unfold numSt
  split
  · have := takeWhole_bd s
    exact ⟨this.2.1, this.1⟩
  · exact ⟨Nat.le_refl _, by simp, by simp⟩
theorem textSt_len (s : List UInt8) (e most : Int) : (textSt s e most).2.1.length ≤ s.length ∧ (textSt s e most).1.length ≤ s.length := by
  unfold textSt
  split
  · have := takeText_bd s most
    exact ⟨this.2.1, this.1⟩
  · exact ⟨Nat.le_refl _, by simp⟩
theorem countSt_len (s : List UInt8) (e most : Int) : (countSt s e most).2.1.length ≤ s.length := by
  unfold countSt
  split
  · exact (takeNum_bd s).2.1
  · exact Nat.le_refl _
def entSt (s : List UInt8) : Name.Ent × List UInt8 × Int := (((textSt s 0 32).1, (numSt (textSt s 0 32).2.1 (textSt s 0 32).2.2).1), (numSt (textSt s 0 32).2.1 (textSt s 0 32).2.2).2)
set_option maxHeartbeats 2000000 in
theorem taking_entry (l : List UInt8) (B : Nat) (T : TypeId) (cs : Array Value) (w : World) (hb : TBox w B T cs) (h0 : cs[0]? = some (.string ⟨l.toArray⟩)) (h1 : cs[1]? = some (.int .i64 0)) (hl : l.length ≤ 140737488355328) :
    Calls Try.prog 48 #[.pointer (some ⟨B, 0, none⟩)] w fun e w' => e = .returned (.agg #[.string ⟨(entSt l).1.1.toArray⟩, .int .i64 (entSt l).1.2]) ∧ TakeR w B (entSt l).2.1 (entSt l).2.2 w' := by
  have hB := hb.lt
  have hE : entSt l = (((textSt l 0 32).1, (numSt (textSt l 0 32).2.1 (textSt l 0 32).2.2).1), (numSt (textSt l 0 32).2.1 (textSt l 0 32).2.2).2) := rfl
  have hl1 := (textSt_len l 0 32).1
  have HT := Lib.hid (fun W (h : TBox W B T cs) => taking_textS l 0 32 B T _ W h h0 h1 hl (by decide) (by decide))
  generalize textSt l 0 32 = x at *
  obtain ⟨nm, r, e⟩ := x
  simp only at hE HT hl1
  have HU := Lib.hid (fun W cs (h : TBox W B T cs) h0 h1 => taking_numberS r e B T cs W h h0 h1 (by omega))
  generalize numSt r e = y at *
  obtain ⟨z, r', e'⟩ := y
  simp only at hE HU
  rw [hE]
  simp only
  obtain ⟨W0, hW0⟩ : ∃ W0, W0 = w.alloc (.cells #[.string ⟨#[]⟩, .int .i64 0] 93) := ⟨_, rfl⟩
  have hb0 : Below w.heap.size w W0 := by rw [hW0]; exact (Below.refl _ _).alloc (Nat.le_refl _) _
  have t0 : TBox W0 w.heap.size 93 #[.string ⟨#[]⟩, .int .i64 0] := by rw [hW0]; exact TBox.new _ _ _
  have hbx := hb.below hb0
  have hs0 : w.heap.size < W0.heap.size := t0.lt
  have HX := Lib.hid (And.intro hbx (And.intro t0 (And.intro hb0 hb)))
  have HW := Lib.hid hW0
  have H1 := Lib.hid h1
  clear hb hE hbx t0 hb0 hW0 h0 h1
  go_enter Try.func48, Try.ntmps48
  go_wp2_with fail
  rw [← HW.out]
  refine (HT.out W0 HX.out.1).mono ?_
  rintro e1 w1 ⟨rfl, hr1⟩
  have HR1 := Lib.hid hr1
  clear hr1
  go_wp2_with fail
  refine (HU.out w1 _ (HR1.out.1 _ _ HX.out.1) (box_get0 H1.out) (box_get1 H1.out)).mono ?_
  rintro e2 w2 ⟨rfl, hr2⟩
  have hr := HR1.out.trans hr2
  have hbs := HR1.out.2.2.1
  have t2 := hr.far HX.out.2.1 (by omega)
  have p0 : w2.cell? ⟨w.heap.size, 0, none⟩ = some (.string ⟨#[]⟩) := t2.cell 0
  have p1 : w2.cell? ⟨w.heap.size, 1, none⟩ = some (.int .i64 0) := t2.cell 1
  have f0 : w2.frozen? ⟨w.heap.size, 0, none⟩ = false := t2.free 0
  have f1 : w2.frozen? ⟨w.heap.size, 1, none⟩ = false := t2.free 1
  have HR := Lib.hid hr
  have HT2 := Lib.hid t2
  clear hr2 hr t2
  have hp := put2 (w := w2) (g := w.heap.size) (.string ⟨nm.toArray⟩) (.int .i64 z) p0 p1
  have q0 := hp.1
  have q1 := hp.2.1
  have HP := Lib.hid hp
  clear hp
  go_wp2_with fail
  refine bodyPost_ret (v := .agg #[.string ⟨nm.toArray⟩, .int .i64 z]) (by simp [results, Try.results48, go_sem, q0, q1]) rfl ⟨rfl, ?_⟩
  refine ⟨fun T' cs hT => ?_, fun k hk hs => ?_, ?_, fun base b hb hB' hs => ?_⟩
  · have h1 := HR.out.1 T' cs (hT.below HX.out.2.2.1)
    exact (h1.far _ 0 _ (by omega)).far _ 1 _ (by omega)
  · rw [HP.out.2.2.1 k (by omega), HR.out.2.1 k hk (by omega)]
    exact HX.out.2.2.1.block k hs
  · have h3 := HP.out.2.2.2.1
    have h4 := HR.out.2.2.1
    omega
  · have h1 := HR.out.2.2.2 base b (hb.trans (HX.out.2.2.1.mono hs)) hB' (by omega)
    exact (h1.setCell (p := ⟨w.heap.size, 0, none⟩) hs _).setCell (p := ⟨w.heap.size, 1, none⟩) hs _
structure HeadT where
  ino : Int × List UInt8 × Int
  kind : Int × List UInt8 × Int
  links : Int × List UInt8 × Int
  text : List UInt8 × List UInt8 × Int
  many : Int × List UInt8 × Int
def headOf (s : List UInt8) : HeadT :=
  let a := numSt s 0
  let b := numSt a.2.1 a.2.2
  let c := numSt b.2.1 b.2.2
  let d := textSt c.2.1 c.2.2 4096
  ⟨a, b, c, d, countSt d.2.1 d.2.2 256⟩
theorem numSt_zero (s : List UInt8) : numSt s 0 = takeWhole s := if_pos rfl
theorem numSt_bad {s : List UInt8} {e : Int} (h : e ≠ 0) : numSt s e = (0, s, e) := if_neg h
theorem textSt_zero (s : List UInt8) (m : Int) : textSt s 0 m = takeText s m := if_pos rfl
theorem textSt_bad {s : List UInt8} {e m : Int} (h : e ≠ 0) : textSt s e m = ([], s, e) := if_neg h
theorem countSt_bad {s : List UInt8} {e m : Int} (h : e ≠ 0) : countSt s e m = (0, s, e) := if_neg h
theorem takeNode_head (s : List UInt8) : takeNode s = (if (headOf s).many.2.2 = 0 then thenP nd0 (takeEs (headOf s).many.1.toNat [] (headOf s).many.2.1) (fun l s' => endN ⟨(headOf s).ino.1, (headOf s).kind.1, (headOf s).links.1, (headOf s).text.1, l⟩ s') else (nd0, [], (headOf s).many.2.2)) ∧ ((headOf s).many.2.2 ≠ 0 → (headOf s).many.1 = 0) ∧ 0 ≤ (headOf s).many.1 ∧ (headOf s).many.1 ≤ 256 ∧ (headOf s).many.2.1.length ≤ s.length ∧ (headOf s).text.1.length ≤ s.length := by
  unfold headOf takeNode
  simp only [numSt_zero]
  have l1 := (takeWhole_bd s).2.1
  by_cases h1 : (takeWhole s).2.2 = 0
  · rw [thenP_ok h1, h1, numSt_zero]
    generalize (takeWhole s).2.1 = s1 at *
    have l2 := (takeWhole_bd s1).2.1
    by_cases h2 : (takeWhole s1).2.2 = 0
    · rw [thenP_ok h2, h2, numSt_zero]
      generalize (takeWhole s1).2.1 = s2 at *
      have l3 := (takeWhole_bd s2).2.1
      by_cases h3 : (takeWhole s2).2.2 = 0
      · rw [thenP_ok h3, h3, textSt_zero]
        generalize (takeWhole s2).2.1 = s3 at *
        have l4 := takeText_bd s3 4096
        by_cases h4 : (takeText s3 4096).2.2 = 0
        · rw [thenP_ok h4, h4]
          generalize (takeText s3 4096).2.1 = s4 at *
          have l5 := (takeNum_bd s4).2.1
          have hc := takeCount_of s4 256 (by decide)
          have hcs : countSt s4 0 256 = (countOf s4 256, (takeNum s4).2.1, countErr s4 256) := if_pos rfl
          rw [hcs]
          simp only
          by_cases h5 : countErr s4 256 = 0
          · obtain ⟨e1, e2⟩ := hc.2.1 h5
            rw [thenP_ok (hc.1.trans h5), if_pos h5, e2, e1, Int.toNat_natCast]
            have hle := (takeCount_laid s4 256 (hc.1.trans h5)).2.1
            rw [e1] at hle
            exact ⟨rfl, fun h => absurd h5 h, by omega, hle, by omega, by omega⟩
          · rw [thenP_no (by rw [hc.1]; exact h5), if_neg h5, hc.1, hc.2.2 h5]
            exact ⟨rfl, fun _ => rfl, by decide, by decide, by omega, by omega⟩
        · rw [thenP_no h4, countSt_bad h4]
          simp only [h4, if_false]
          exact ⟨trivial, fun _ => trivial, by decide, by decide, by omega, by omega⟩
      · rw [thenP_no h3, textSt_bad h3]
        simp only
        rw [countSt_bad h3]
        simp only [h3, if_false]
        exact ⟨trivial, fun _ => trivial, by decide, by decide, by omega, by simp⟩
    · rw [thenP_no h2, numSt_bad h2]
      simp only
      rw [textSt_bad h2]
      simp only
      rw [countSt_bad h2]
      simp only [h2, if_false]
      exact ⟨trivial, fun _ => trivial, by decide, by decide, by omega, by simp⟩
  · rw [thenP_no h1, numSt_bad h1]
    simp only
    rw [numSt_bad h1]
    simp only
    rw [textSt_bad h1]
    simp only
    rw [countSt_bad h1]
    simp only [h1, if_false]
    exact ⟨trivial, fun _ => trivial, by decide, by decide, by omega, by simp⟩
theorem takeEs_step (m : Nat) (acc : List Name.Ent) (s : List UInt8) : takeEs (m + 1) acc s = if (entSt s).2.2 = 0 then takeEs m (acc ++ [(entSt s).1]) (entSt s).2.1 else ([], [], (entSt s).2.2) := by
  rw [takeEs]
  unfold entSt
  rw [textSt_zero]
  by_cases h1 : (takeText s 32).2.2 = 0
  · rw [thenP_ok h1, h1, numSt_zero]
    simp only
    by_cases h2 : (takeWhole (takeText s 32).2.1).2.2 = 0
    · rw [thenP_ok h2, if_pos h2]
    · rw [thenP_no h2, if_neg h2]
  · rw [thenP_no h1, numSt_bad h1]
    simp only
    rw [if_neg h1]
theorem entSt_ok (s : List UInt8) : (entSt s).2.1.length ≤ s.length ∧ ((entSt s).2.2 = 0 → EntT (entSt s).1) := by
  unfold entSt
  have h1 := textSt_len s 0 32
  have h2 := numSt_len (textSt s 0 32).2.1 (textSt s 0 32).2.2
  refine ⟨by simp only; omega, fun h => ?_⟩
  simp only at h
  have he : (textSt s 0 32).2.2 = 0 := Classical.byContradiction fun hh => by rw [numSt_bad hh] at h; exact hh h
  rw [textSt_zero] at he
  have := (takeText_laid s 32 he).2
  exact ⟨by rw [textSt_zero]; simp only; omega, h2.2⟩
end Go.Proofs.Ytgcjfhgkkgocpaa
