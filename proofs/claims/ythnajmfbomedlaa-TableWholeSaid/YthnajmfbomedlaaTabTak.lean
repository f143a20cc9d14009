/- table.taking's parts: a number, a number with a sign, a decision: each answers as the document says, whatever the error is, and leaves what is left in its box. -/
import Derived.Test.YthnajmfbomedlaaTabTxP
import Derived.Test.YthnajmfbomedlaaTaking
import Derived.Test.YthnajmfbomedlaaOctTakeNum
set_option linter.unusedVariables false
set_option linter.unusedSimpArgs false
namespace Go.Proofs.Ythnajmfbomedlaa
open Go.RowKit Copyhold

/-- the cells of a taker -/
def bxT (s : List UInt8) (e : Int) (o : Bool) : Array Value := #[.string ⟨s.toArray⟩, .int .i64 e, .bool o]
/-- what a taker's call leaves: its box; all else as it was -/
def TkW (w : World) (B : Nat) (T : TypeId) (cs : Array Value) (w' : World) : Prop :=
  TBox w' B T cs ∧ (∀ k, k ≠ B → k < w.heap.size → w'.heap[k]? = w.heap[k]?) ∧ w.heap.size ≤ w'.heap.size ∧ (∀ base a, Below base a w → base ≤ B → base ≤ w.heap.size → Below base a w')
theorem TkW.refl {w : World} {B : Nat} {T : TypeId} {cs : Array Value} (h : TBox w B T cs) : TkW w B T cs w := ⟨h, fun _ _ _ => rfl, Nat.le_refl _, fun _ _ h _ _ => h⟩
theorem TkW.trans {w w1 w2 : World} {B : Nat} {T : TypeId} {cs cs1 : Array Value} (h : TkW w B T cs1 w1) (k : TkW w1 B T cs w2) : TkW w B T cs w2 :=
  ⟨k.1, fun j hj hs => (k.2.1 j hj (Nat.lt_of_lt_of_le hs h.2.2.1)).trans (h.2.1 j hj hs), Nat.le_trans h.2.2.1 k.2.2.1, fun base a hb hB hs => k.2.2.2 base a (h.2.2.2 base a hb hB hs) hB (Nat.le_trans hs h.2.2.1)⟩
theorem TkW.below {w w1 : World} {B : Nat} {T : TypeId} {cs : Array Value} (h : TBox w B T cs) (hb : Below w.heap.size w w1) : TkW w B T cs w1 :=
  ⟨h.below hb, fun k _ hs => hb.block k hs, hb.size, fun base a h' _ hs => h'.trans (hb.mono hs)⟩
theorem TkW.set {w w1 : World} {B : Nat} {T : TypeId} {cs : Array Value} (h : TkW w B T cs w1) (o : Nat) (x : Value) : TkW w B T (cs.setIfInBounds o x) (w1.setCell ⟨B, o, none⟩ x) :=
  ⟨h.1.set o x, fun k hk hs => by rw [heap_setCell_far _ _ _ _ hk]; exact h.2.1 k hk hs, by simpa using h.2.2.1, fun base a hb hB hs => (h.2.2.2 base a hb hB hs).setCell (p := ⟨B, o, none⟩) hB _⟩
theorem TkW.far {w w' : World} {B : Nat} {T T' : TypeId} {cs cs' : Array Value} (h : TkW w B T cs w') {R : Nat} (hR : TBox w R T' cs') (hne : R ≠ B) : TBox w' R T' cs' := by
  unfold TBox at hR ⊢
  rw [h.2.1 R hne (Array.getElem?_eq_some_iff.1 hR).1]
  exact hR
theorem TkW.owns {w w' : World} {B : Nat} {T : TypeId} {cs : Array Value} (h : TkW w B T cs w') {base : Nat} {t : TypeId} {k : Nat} {v : Value} {n : Nat} {xs : List Value} (ho : w.ownsRow base t k v n xs) (hB : B < base) : w'.ownsRow base t k v n xs := by
  refine ⟨ho.1, ?_⟩
  rcases ho.2 with h' | ⟨g, cap, cur, rfl, hg, hgg, r⟩
  · exact .inl h'
  · exact .inr ⟨g, cap, cur, rfl, hg, by rw [h.2.1 g (by omega) (Array.getElem?_eq_some_iff.1 hgg).1]; exact hgg, r⟩

/-- how many there are: nothing where it isn't told, or above most; the error -/
def countOf (l : List UInt8) (most : Int) : Int := if (takeNum l).2.2 ≠ 0 then 0 else if most < ((takeNum l).1 : Int) then 0 else ((takeNum l).1 : Int)
def countErr (l : List UInt8) (most : Int) : Int := if (takeNum l).2.2 ≠ 0 then (takeNum l).2.2 else if most < ((takeNum l).1 : Int) then 5 else 0
theorem takeNum_bad (l : List UInt8) (h : (takeNum l).2.2 ≠ 0) : (takeNum l).1 = 0 := by
  have : ∀ (l : List UInt8) (k acc : Nat), (tnGo k acc l).2.2 ≠ 0 → (tnGo k acc l).1 = 0 := by
    intro l
    induction l with
    | nil => intro k acc h; rw [tnGo] at h ⊢; split <;> rfl
    | cons b r ih =>
      intro k acc h
      rw [tnGo] at h ⊢
      split
      · rename_i h1
        rw [if_pos h1] at h
        split
        · rename_i h2
          rw [if_pos h2] at h
          split
          · rfl
          · rename_i h3
            rw [if_neg h3] at h
            exact absurd rfl h
        · rename_i h2
          rw [if_neg h2] at h
          exact ih _ _ h
      · rfl
  exact this l 0 0 h
theorem takeCount_of (l : List UInt8) (most : Int) (h0 : 0 ≤ most) : (takeCount l most).2.2 = countErr l most ∧ (countErr l most = 0 → takeCount l most = takeNum l ∧ countOf l most = ((takeCount l most).1 : Int)) ∧ (countErr l most ≠ 0 → countOf l most = 0) := by
  unfold takeCount countErr countOf
  by_cases h1 : (takeNum l).2.2 ≠ 0
  · rw [if_pos h1, if_pos h1, if_pos h1]
    exact ⟨rfl, fun h => absurd h h1, fun _ => rfl⟩
  · rw [if_neg h1, if_neg h1, if_neg h1]
    by_cases h2 : most < ((takeNum l).1 : Int)
    · rw [if_pos (.inr h2), if_pos h2, if_pos h2]
      exact ⟨rfl, fun h => (by cases h), fun _ => rfl⟩
    · rw [if_neg (by omega), if_neg h2, if_neg h2]
      exact ⟨by omega, fun _ => ⟨rfl, rfl⟩, fun h => absurd rfl h⟩

/-- a number, at most so great, taken where no error was told ahead -/
def cntSt (s : List UInt8) (e most : Int) : Int × List UInt8 × Int := if e = 0 then (countOf s most, (takeNum s).2.1, countErr s most) else (0, s, e)
def numSt (s : List UInt8) (e : Int) : Int × List UInt8 × Int := if e = 0 then takeWhole s else (0, s, e)
/-- a decision -/
def decSt (s : List UInt8) (e : Int) (o : Bool) : (Int × Bool) × Bool × List UInt8 × Int :=
  (((numSt s e).1, (cntSt (numSt s e).2.1 (numSt s e).2.2 18446744073709551615).1 == 1), o || decide (1 < (cntSt (numSt s e).2.1 (numSt s e).2.2 18446744073709551615).1), (cntSt (numSt s e).2.1 (numSt s e).2.2 18446744073709551615).2)

theorem cntSt_bd (s : List UInt8) (e most : Int) : (0 ≤ (cntSt s e most).1 ∧ (cntSt s e most).1 ≤ 18446744073709551615) ∧ (cntSt s e most).2.1.length ≤ s.length ∧ (0 ≤ most → (cntSt s e most).1 ≤ most) := by
  have := takeNum_bd s
  unfold cntSt countOf
  split
  · split
    · simp only; omega
    · split
      · simp only; omega
      · simp only; omega
  · simp only; omega
theorem cntSt_bad {s : List UInt8} {e most : Int} (h : e ≠ 0) : cntSt s e most = (0, s, e) := if_neg h
theorem numSt_bad {s : List UInt8} {e : Int} (h : e ≠ 0) : numSt s e = (0, s, e) := if_neg h
theorem numSt_zero (s : List UInt8) : numSt s 0 = takeWhole s := if_pos rfl
theorem numSt_cnt (s : List UInt8) (e : Int) : numSt s e = (unfoldN (cntSt s e 18446744073709551615).1, (cntSt s e 18446744073709551615).2) := by
  unfold numSt cntSt
  split
  · unfold takeWhole countOf countErr
    have := takeNum_bd s
    by_cases h : (takeNum s).2.2 ≠ 0
    · rw [if_pos h, if_pos h, takeNum_bad s h]
      rfl
    · rw [if_neg h, if_neg h, if_neg (by omega), if_neg (by omega)]
      simp only [ne_eq, Classical.not_not] at h
      rw [h]
  · rfl
theorem numSt_bd (s : List UInt8) (e : Int) : i64ok (numSt s e).1 ∧ (numSt s e).2.1.length ≤ s.length := by
  have h := cntSt_bd s e 18446744073709551615
  rw [numSt_cnt]
  exact ⟨unfold_bd _ h.1.1 h.1.2, h.2.1⟩
theorem cntSt_num (s : List UInt8) : cntSt s 0 18446744073709551615 = (((takeNum s).1 : Int), (takeNum s).2) := by
  have := takeNum_bd s
  unfold cntSt
  rw [if_pos rfl]
  unfold countOf countErr
  by_cases h : (takeNum s).2.2 ≠ 0
  · rw [if_pos h, if_pos h, takeNum_bad s h]
    rfl
  · rw [if_neg h, if_neg h, if_neg (by omega), if_neg (by omega)]
    simp only [ne_eq, Classical.not_not] at h
    rw [← h]

set_option maxHeartbeats 2000000 in
theorem taking_take (l : List UInt8) (err : Int) (o : Bool) (most : Int) (B : Nat) (T : TypeId) (w : World) (hb : TBox w B T (bxT l err o)) (hl : l.length ≤ 140737488355328) (m1 : 0 ≤ most) (m2 : most ≤ 18446744073709551615) :
    Calls Try.prog 40 #[.pointer (some ⟨B, 0, none⟩), .int .u64 most] w fun e w' => e = .returned (.int .u64 (cntSt l err most).1) ∧ TkW w B T (bxT (cntSt l err most).2.1 (cntSt l err most).2.2 o) w' := by
  have c0 : w.cell? ⟨B, 0, none⟩ = some (.string ⟨l.toArray⟩) := hb.cell 0
  have c1 : w.cell? ⟨B, 1, none⟩ = some (.int .i64 err) := hb.cell 1
  have hB := hb.lt
  have HB := Lib.hid hb
  clear hb
  by_cases he0 : err = 0
  · subst he0
    have hbd := takeNum_bd l
    have HT := Lib.hid (octet_TakeNum l w hl)
    have HS : Hid (cntSt l 0 most = (countOf l most, (takeNum l).2.1, countErr l most)) := Lib.hid (if_pos rfl)
    have HD : Hid (countOf l most = if (takeNum l).2.2 ≠ 0 then 0 else if most < ((takeNum l).1 : Int) then 0 else ((takeNum l).1 : Int)) := Lib.hid rfl
    have HE : Hid (countErr l most = if (takeNum l).2.2 ≠ 0 then (takeNum l).2.2 else if most < ((takeNum l).1 : Int) then 5 else 0) := Lib.hid rfl
    have HZ := Lib.hid (takeNum_bad l)
    generalize takeNum l = x at *
    obtain ⟨n, r, e⟩ := x
    simp only at HT HD HE HZ HS hbd
    obtain ⟨z, hz⟩ : ∃ z : Int, z = (n : Int) := ⟨_, rfl⟩
    have hz0 : 0 ≤ z := by omega
    have hz1 : z ≤ 18446744073709551615 := by omega
    rw [← hz] at HT HD HE
    have HZZ := Lib.hid hz
    have HBD := Lib.hid hbd
    clear hz hbd
    by_cases hc : most < z
    · have he : e = 0 := Classical.byContradiction fun h => by have := HZ.out h; have := HZZ.out; omega
      subst he
      rw [if_neg (by decide), if_pos hc] at HD HE
      have hc' : decide (most < z) = true := by simpa using hc
      go_enter Try.func40, Try.ntmps40
      go_wp2_with fail
      refine HT.out.mono ?_
      rintro e w1 ⟨rfl, hb1⟩
      have HK := Lib.hid (TkW.below HB.out hb1)
      have t1 := HB.out.below hb1
      have d0 : w1.cell? ⟨B, 0, none⟩ = some (.string ⟨l.toArray⟩) := t1.cell 0
      have d1 : w1.cell? ⟨B, 1, none⟩ = some (.int .i64 0) := t1.cell 1
      have g0 := t1.free 0
      have g1 := t1.free 1
      clear hb1 c0 c1 t1
      go_wp2_with fail
      go_ret
      refine ⟨by rw [HS.out, HD.out]; rfl, ?_⟩
      rw [HS.out, HE.out, setCell_twice]
      exact ((HK.out.set 0 _).set 1 _)
    · have hd : countOf l most = z := by
        rw [HD.out]
        split
        · rename_i h; have := HZ.out h; have := HZZ.out; omega
        · rfl
      have he : countErr l most = e := by
        rw [HE.out]
        split
        · rfl
        · rename_i h; omega
      have HD2 := Lib.hid hd
      have HE2 := Lib.hid he
      have hc' : decide (most < z) = false := by simpa using hc
      clear hd he HD HE
      go_enter Try.func40, Try.ntmps40
      go_wp2_with fail
      refine HT.out.mono ?_
      rintro e w1 ⟨rfl, hb1⟩
      have HK := Lib.hid (TkW.below HB.out hb1)
      have t1 := HB.out.below hb1
      have d0 : w1.cell? ⟨B, 0, none⟩ = some (.string ⟨l.toArray⟩) := t1.cell 0
      have d1 : w1.cell? ⟨B, 1, none⟩ = some (.int .i64 0) := t1.cell 1
      have g0 := t1.free 0
      have g1 := t1.free 1
      clear hb1 c0 c1 t1
      go_wp2_with fail
      go_ret
      refine ⟨by rw [HS.out, HD2.out]; rfl, ?_⟩
      rw [HS.out, HE2.out]
      exact ((HK.out.set 0 _).set 1 _)
  · have hne : (err == 0) = false := by simpa using he0
    have hne2 : (err != 0) = true := by simpa using he0
    have HS : Hid (cntSt l err most = (0, l, err)) := Lib.hid (if_neg he0)
    clear he0
    go_enter Try.func40, Try.ntmps40
    go_wp2_with fail
    go_ret
    rw [HS.out]
    exact ⟨rfl, TkW.refl HB.out⟩

set_option maxHeartbeats 2000000 in
theorem taking_number (l : List UInt8) (err : Int) (o : Bool) (B : Nat) (T : TypeId) (w : World) (hb : TBox w B T (bxT l err o)) (hl : l.length ≤ 140737488355328) :
    Calls Try.prog 56 #[.pointer (some ⟨B, 0, none⟩)] w fun e w' => e = .returned (.int .i64 (numSt l err).1) ∧ TkW w B T (bxT (numSt l err).2.1 (numSt l err).2.2 o) w' := by
  have hbd := (cntSt_bd l err 18446744073709551615).1
  have HT := Lib.hid (taking_take l err o 18446744073709551615 B T w hb hl (by decide) (by decide))
  have HN := Lib.hid (numSt_cnt l err)
  generalize cntSt l err 18446744073709551615 = x at *
  obtain ⟨n, r, e⟩ := x
  simp only at HT HN hbd
  obtain ⟨b1, b2⟩ := hbd
  have HU := Lib.hid (fun W => octet_Unfold n W b1 b2)
  have hB := hb.lt
  clear hb
  go_enter Try.func56, Try.ntmps56
  go_wp2_with fail
  refine HT.out.mono ?_
  rintro e w1 ⟨rfl, hb1⟩
  have HB1 := Lib.hid hb1
  clear hb1
  go_wp2_with fail
  refine (HU.out _).mono ?_
  rintro e w2 ⟨rfl, rfl⟩
  go_wp2_with fail
  go_ret
  rw [HN.out]
  exact ⟨rfl, HB1.out⟩
end Go.Proofs.Ythnajmfbomedlaa
