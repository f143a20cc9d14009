/- Layer 14, without a program: the states of a taker, row by row; what they come to is what is taken. -/
import Derived.Test.YthnajmfbomedlaaTabTak
set_option linter.unusedVariables false
namespace Go.Proofs.Ythnajmfbomedlaa
open Copyhold

/-- so many decisions, behind those that were taken, state by state -/
def decsSt : Nat → List (Int × Bool) → Bool → List UInt8 → Int → List (Int × Bool) × Bool × List UInt8 × Int
  | 0, acc, o, s, e => (acc, o, s, e)
  | m + 1, acc, o, s, e => decsSt m (acc ++ [(decSt s e o).1]) (decSt s e o).2.1 (decSt s e o).2.2.1 (decSt s e o).2.2.2
/-- a row -/
def rowSt (s : List UInt8) (e : Int) (o : Bool) : TRow × Bool × List UInt8 × Int :=
  let a := numSt s e
  let b := numSt a.2.1 a.2.2
  let c := numSt b.2.1 b.2.2
  let d := cntSt c.2.1 c.2.2 256
  let x := decsSt d.1.toNat [] o d.2.1 d.2.2
  (⟨a.1, b.1, c.1, x.1⟩, x.2)
/-- so many rows -/
def rowsSt : Nat → List TRow → Bool → List UInt8 → Int → List TRow × Bool × List UInt8 × Int
  | 0, acc, o, s, e => (acc, o, s, e)
  | m + 1, acc, o, s, e => rowsSt m (acc ++ [(rowSt s e o).1]) (rowSt s e o).2.1 (rowSt s e o).2.2.1 (rowSt s e o).2.2.2

theorem decSt_bd (s : List UInt8) (e : Int) (o : Bool) : i64ok (decSt s e o).1.1 ∧ (decSt s e o).2.2.1.length ≤ s.length := by
  have h1 := numSt_bd s e
  have h2 := cntSt_bd (numSt s e).2.1 (numSt s e).2.2 18446744073709551615
  unfold decSt
  exact ⟨h1.1, by simp only; omega⟩
theorem decSt_bad {s : List UInt8} {e : Int} {o : Bool} (h : e ≠ 0) : decSt s e o = ((0, false), o, s, e) := by
  unfold decSt
  rw [numSt_bad h]
  simp only
  rw [cntSt_bad h]
  simp
theorem decsSt_bad : ∀ (m : Nat) (acc : List (Int × Bool)) (o : Bool) (s : List UInt8) (e : Int), e ≠ 0 → (decsSt m acc o s e).2.2.2 = e ∧ (decsSt m acc o s e).2.2.1.length ≤ s.length
  | 0, acc, o, s, e, h => ⟨rfl, Nat.le_refl _⟩
  | m + 1, acc, o, s, e, h => by
    rw [decsSt, decSt_bad h]
    exact decsSt_bad m _ _ _ _ h
theorem decsSt_len : ∀ (m : Nat) (acc : List (Int × Bool)) (o : Bool) (s : List UInt8) (e : Int), (decsSt m acc o s e).1.length = acc.length + m ∧ (decsSt m acc o s e).2.2.1.length ≤ s.length
  | 0, acc, o, s, e => ⟨rfl, Nat.le_refl _⟩
  | m + 1, acc, o, s, e => by
    rw [decsSt]
    have h := decsSt_len m (acc ++ [(decSt s e o).1]) (decSt s e o).2.1 (decSt s e o).2.2.1 (decSt s e o).2.2.2
    have h2 := (decSt_bd s e o).2
    simp only [List.length_append, List.length_cons, List.length_nil] at h
    omega
theorem decsSt_ok : ∀ (m : Nat) (acc : List (Int × Bool)) (o : Bool) (s : List UInt8) (e : Int), (∀ d ∈ acc, i64ok d.1) → ∀ d ∈ (decsSt m acc o s e).1, i64ok d.1
  | 0, acc, o, s, e, h => h
  | m + 1, acc, o, s, e, h => by
    rw [decsSt]
    refine decsSt_ok m _ _ _ _ (fun d hd => ?_)
    rcases List.mem_append.1 hd with hd | hd
    · exact h d hd
    · rw [List.mem_singleton.1 hd]
      exact (decSt_bd s e o).1

/-- the states come to what is taken: the error; where there is none, all of it -/
theorem decsSt_take : ∀ (m : Nat) (acc : List (Int × Bool)) (o : Bool) (s : List UInt8), (decsSt m acc o s 0).2.2.2 = (takeDs m acc o s).2.2 ∧ ((takeDs m acc o s).2.2 = 0 → decsSt m acc o s 0 = ((takeDs m acc o s).1.1, (takeDs m acc o s).1.2, (takeDs m acc o s).2.1, 0))
  | 0, acc, o, s => ⟨rfl, fun _ => rfl⟩
  | m + 1, acc, o, s => by
    rw [decsSt, takeDs]
    by_cases h1 : (takeWhole s).2.2 = 0
    · rw [thenP_ok h1]
      have hd : decSt s 0 o = (((takeWhole s).1, (takeNum (takeWhole s).2.1).1 == 1), o || decide (1 < (takeNum (takeWhole s).2.1).1), (takeNum (takeWhole s).2.1).2.1, (takeNum (takeWhole s).2.1).2.2) := by
        unfold decSt
        rw [numSt_zero, h1, cntSt_num]
        simp only [Prod.mk.injEq, and_true, true_and]
        constructor
        · rw [Bool.eq_iff_iff]; simp only [beq_iff_eq]; omega
        · congr 1
          rw [decide_eq_decide]; omega
      rw [hd]
      simp only
      by_cases h2 : (takeNum (takeWhole s).2.1).2.2 = 0
      · rw [thenP_ok h2, h2]
        exact decsSt_take m _ _ _
      · rw [thenP_no h2]
        exact ⟨(decsSt_bad m _ _ _ _ h2).1, fun h => absurd h h2⟩
    · rw [thenP_no h1]
      have hd : (decSt s 0 o).2.2.2 = (takeWhole s).2.2 := by
        unfold decSt
        rw [numSt_zero, cntSt_bad h1]
      rw [← hd] at h1
      have h := (decsSt_bad m (acc ++ [(decSt s 0 o).1]) (decSt s 0 o).2.1 (decSt s 0 o).2.2.1 _ h1).1
      simp only
      rw [← hd]
      exact ⟨h, fun h => absurd h h1⟩

theorem rowSt_bad {s : List UInt8} {e : Int} {o : Bool} (h : e ≠ 0) : (rowSt s e o).2.2.2 = e := by
  unfold rowSt
  simp only [numSt_bad h, cntSt_bad h]
  exact (decsSt_bad _ _ _ _ _ h).1
theorem rowSt_bd (s : List UInt8) (e : Int) (o : Bool) : RowT (rowSt s e o).1 ∧ (rowSt s e o).2.2.1.length ≤ s.length := by
  unfold rowSt
  simp only
  have h1 := numSt_bd s e
  have h2 := numSt_bd (numSt s e).2.1 (numSt s e).2.2
  have h3 := numSt_bd (numSt (numSt s e).2.1 (numSt s e).2.2).2.1 (numSt (numSt s e).2.1 (numSt s e).2.2).2.2
  generalize numSt (numSt (numSt s e).2.1 (numSt s e).2.2).2.1 (numSt (numSt s e).2.1 (numSt s e).2.2).2.2 = c at *
  have h4 := cntSt_bd c.2.1 c.2.2 256
  generalize cntSt c.2.1 c.2.2 256 = d at *
  have h5 := decsSt_len d.1.toNat [] o d.2.1 d.2.2
  have h6 := decsSt_ok d.1.toNat [] o d.2.1 d.2.2 (fun d hd => by cases hd)
  refine ⟨⟨h1.1, h2.1, h3.1, ?_, h6⟩, by omega⟩
  have := h4.2.2 (by decide)
  rw [h5.1]
  simp only [List.length_nil]
  omega

theorem rowSt_take (o : Bool) (s : List UInt8) : (rowSt s 0 o).2.2.2 = (takeRow o s).2.2 ∧ ((takeRow o s).2.2 = 0 → rowSt s 0 o = ((takeRow o s).1.1, (takeRow o s).1.2, (takeRow o s).2.1, 0)) := by
  unfold rowSt takeRow
  simp only [numSt_zero]
  by_cases h1 : (takeWhole s).2.2 = 0
  · rw [thenP_ok h1, h1, numSt_zero]
    generalize (takeWhole s).2.1 = s1 at *
    by_cases h2 : (takeWhole s1).2.2 = 0
    · rw [thenP_ok h2, h2, numSt_zero]
      generalize (takeWhole s1).2.1 = s2 at *
      by_cases h3 : (takeWhole s2).2.2 = 0
      · rw [thenP_ok h3, h3]
        generalize (takeWhole s2).2.1 = s3 at *
        have hc := takeCount_of s3 256 (by decide)
        have hcs : cntSt s3 0 256 = (countOf s3 256, (takeNum s3).2.1, countErr s3 256) := if_pos rfl
        rw [hcs]
        simp only
        by_cases h5 : countErr s3 256 = 0
        · obtain ⟨e1, e2⟩ := hc.2.1 h5
          rw [thenP_ok (hc.1.trans h5), h5, e2, e1, Int.toNat_natCast]
          obtain ⟨d1, d2⟩ := decsSt_take (takeNum s3).1 [] o (takeNum s3).2.1
          by_cases h6 : (takeDs (takeNum s3).1 [] o (takeNum s3).2.1).2.2 = 0
          · rw [thenP_ok h6]
            refine ⟨d1.trans h6, fun _ => ?_⟩
            rw [d2 h6]
          · rw [thenP_no h6]
            exact ⟨d1, fun h => absurd h h6⟩
        · rw [thenP_no (by rw [hc.1]; exact h5), hc.1]
          exact ⟨(decsSt_bad _ _ _ _ _ h5).1, fun h => absurd h h5⟩
      · rw [thenP_no h3, cntSt_bad h3]
        exact ⟨(decsSt_bad _ _ _ _ _ h3).1, fun h => absurd h h3⟩
    · rw [thenP_no h2, numSt_bad h2]
      simp only
      rw [cntSt_bad h2]
      exact ⟨(decsSt_bad _ _ _ _ _ h2).1, fun h => absurd h h2⟩
  · rw [thenP_no h1, numSt_bad h1]
    simp only
    rw [numSt_bad h1]
    simp only
    rw [cntSt_bad h1]
    exact ⟨(decsSt_bad _ _ _ _ _ h1).1, fun h => absurd h h1⟩

theorem rowsSt_bad : ∀ (m : Nat) (acc : List TRow) (o : Bool) (s : List UInt8) (e : Int), e ≠ 0 → (rowsSt m acc o s e).2.2.2 = e
  | 0, acc, o, s, e, h => rfl
  | m + 1, acc, o, s, e, h => by
    rw [rowsSt, rowSt_bad h]
    exact rowsSt_bad m _ _ _ _ h
theorem rowsSt_take : ∀ (m : Nat) (acc : List TRow) (o : Bool) (s : List UInt8), (rowsSt m acc o s 0).2.2.2 = (takeRs m acc o s).2.2 ∧ ((takeRs m acc o s).2.2 = 0 → rowsSt m acc o s 0 = ((takeRs m acc o s).1.1, (takeRs m acc o s).1.2, (takeRs m acc o s).2.1, 0))
  | 0, acc, o, s => ⟨rfl, fun _ => rfl⟩
  | m + 1, acc, o, s => by
    rw [rowsSt, takeRs]
    obtain ⟨r1, r2⟩ := rowSt_take o s
    by_cases h1 : (takeRow o s).2.2 = 0
    · rw [thenP_ok h1, r2 h1]
      exact rowsSt_take m _ _ _
    · rw [thenP_no h1]
      have hr : (rowSt s 0 o).2.2.2 ≠ 0 := by rw [r1]; exact h1
      refine ⟨?_, fun h => absurd h h1⟩
      rw [rowsSt_bad m _ _ _ _ hr, r1]
theorem rowsSt_ok : ∀ (m : Nat) (acc : List TRow) (o : Bool) (s : List UInt8) (e : Int), (∀ r ∈ acc, RowT r) → (∀ r ∈ (rowsSt m acc o s e).1, RowT r) ∧ (rowsSt m acc o s e).1.length = acc.length + m
  | 0, acc, o, s, e, h => ⟨h, rfl⟩
  | m + 1, acc, o, s, e, h => by
    rw [rowsSt]
    have := rowsSt_ok m (acc ++ [(rowSt s e o).1]) (rowSt s e o).2.1 (rowSt s e o).2.2.1 (rowSt s e o).2.2.2 (fun r hr => by
      rcases List.mem_append.1 hr with hr | hr
      · exact h r hr
      · rw [List.mem_singleton.1 hr]
        exact (rowSt_bd s e o).1)
    refine ⟨this.1, ?_⟩
    rw [this.2, List.length_append, List.length_cons, List.length_nil]
    omega
/-- all parts of a text, state by state -/
def allSt (s : List UInt8) : List TRow × Bool × List UInt8 × Int := rowsSt (cntSt s 0 64).1.toNat [] false (cntSt s 0 64).2.1 (cntSt s 0 64).2.2
theorem allSt_take (s : List UInt8) : takeT s = (if (allSt s).2.2.2 ≠ 0 then ([], (allSt s).2.2.2) else if (allSt s).2.1 = true ∨ (allSt s).2.2.1 ≠ [] ∨ goodB (allSt s).1 = false then ([], 3) else ((allSt s).1, 0)) := by
  have hc := takeCount_of s 64 (by decide)
  have hcs : cntSt s 0 64 = (countOf s 64, (takeNum s).2.1, countErr s 64) := if_pos rfl
  unfold takeT endT takeAll allSt
  rw [hcs]
  simp only
  by_cases h5 : countErr s 64 = 0
  · obtain ⟨e1, e2⟩ := hc.2.1 h5
    rw [thenP_ok (hc.1.trans h5), h5, e2, e1, Int.toNat_natCast]
    obtain ⟨d1, d2⟩ := rowsSt_take (takeNum s).1 [] false (takeNum s).2.1
    by_cases h6 : (takeRs (takeNum s).1 [] false (takeNum s).2.1).2.2 = 0
    · rw [d2 h6]
      simp only [h6]
    · rw [if_pos h6, if_pos (by rw [d1]; exact h6), d1]
  · have h7 : countErr s 64 ≠ 0 := h5
    rw [thenP_no (by rw [hc.1]; exact h5), hc.1]
    simp only
    rw [rowsSt_bad _ _ _ _ _ h5]
    simp [h5]
end Go.Proofs.Ythnajmfbomedlaa
