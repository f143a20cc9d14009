/- Layer 14, without a program: rows' text, and what is taken of a text. -/
import Derived.Test.YthnajmfbomedlaaParse
import Derived.Test.YthnajmfbomedlaaOctFold
import Derived.Test.YthnajmfbomedlaaTabRight
set_option linter.unusedVariables false
namespace Go.Proofs.Ythnajmfbomedlaa
open Copyhold

def wholeB (z : Int) : List UInt8 := numB (foldN z).toNat
theorem fold_bd (z : Int) (h1 : -9223372036854775808 ≤ z) (h2 : z ≤ 9223372036854775807) : 0 ≤ foldN z ∧ foldN z ≤ 18446744073709551615 := by
  unfold foldN; split <;> omega
theorem unfold_bd (n : Int) (h1 : 0 ≤ n) (h2 : n ≤ 18446744073709551615) : i64ok (unfoldN n) := by
  unfold unfoldN i64ok; split <;> omega
theorem wholeB_len (z : Int) (h : i64ok z) : (wholeB z).length ≤ 10 := numB_len10 _ (by have := fold_bd z h.1 h.2; omega)
theorem unfold_fold (z : Int) : unfoldN (foldN z) = z := by
  unfold unfoldN foldN
  split <;> split <;> omega
theorem fold_unfold (n : Int) (h : 0 ≤ n) : foldN (unfoldN n) = n := by
  unfold unfoldN foldN
  split <;> split <;> omega

/-- a number with a sign, taken -/
def takeWhole (s : List UInt8) : Int × List UInt8 × Int := (unfoldN ((takeNum s).1 : Int), (takeNum s).2.1, (takeNum s).2.2)
theorem takeWhole_bd (s : List UInt8) : i64ok (takeWhole s).1 ∧ (takeWhole s).2.1.length ≤ s.length ∧ 0 ≤ (takeWhole s).2.2 ∧ (takeWhole s).2.2 ≤ 3 := by
  obtain ⟨h1, h2, h3⟩ := takeNum_bd s
  exact ⟨unfold_bd _ (by omega) (by omega), h2, h3⟩
theorem takeWhole_parses (z : Int) (h : i64ok z) : Parses takeWhole (wholeB z) z := by
  obtain ⟨f1, f2⟩ := fold_bd z h.1 h.2
  have h := takeNum_parses (foldN z).toNat (by omega)
  refine ⟨fun more => ?_, fun c hc => ?_⟩
  · unfold takeWhole wholeB
    rw [h.1, Int.toNat_of_nonneg f1, unfold_fold]
  · have := h.2 c hc
    unfold takeWhole wholeB
    simp only
    rw [this]
theorem takeWhole_laid (s : List UInt8) (h : (takeWhole s).2.2 = 0) : s = wholeB (takeWhole s).1 ++ (takeWhole s).2.1 := by
  have := takeNum_laid s h
  unfold takeWhole wholeB
  simp only
  rw [fold_unfold _ (by omega), Int.toNat_natCast]
  exact this

/-- yes and no, as a number -/
def yesN (b : Bool) : Nat := if b then 1 else 0
def decP (d : Int × Bool) : List (List UInt8) := [wholeB d.1, numB (yesN d.2)]
def headP (r : TRow) : List (List UInt8) := [wholeB r.client, wholeB r.epoch, wholeB r.done, numB r.l.length]
def rowP (r : TRow) : List (List UInt8) := headP r ++ r.l.flatMap decP
/-- the parts of rows' text, and the text -/
def rowsP (rs : List TRow) : List (List UInt8) := numB rs.length :: rs.flatMap rowP
def rowsB (rs : List TRow) : List UInt8 := (rowsP rs).flatten

/-- so many decisions, behind those that were taken; odd: was something told that is no yes and no no? -/
def takeDs : Nat → List (Int × Bool) → Bool → List UInt8 → (List (Int × Bool) × Bool) × List UInt8 × Int
  | 0, acc, o, s => ((acc, o), s, 0)
  | m + 1, acc, o, s => thenP ([], false) (takeWhole s) fun q s => thenP ([], false) (takeNum s) fun y s => takeDs m (acc ++ [(q, y == 1)]) (o || decide (1 < y)) s
def row0 : TRow := ⟨0, 0, 0, []⟩
/-- a row -/
def takeRow (o : Bool) (s : List UInt8) : (TRow × Bool) × List UInt8 × Int :=
  thenP (row0, false) (takeWhole s) fun c s => thenP (row0, false) (takeWhole s) fun e s => thenP (row0, false) (takeWhole s) fun d s =>
  thenP (row0, false) (takeCount s 256) fun m s => thenP (row0, false) (takeDs m [] o s) fun x s => ((⟨c, e, d, x.1⟩, x.2), s, 0)
/-- so many rows, behind those that were taken -/
def takeRs : Nat → List TRow → Bool → List UInt8 → (List TRow × Bool) × List UInt8 × Int
  | 0, acc, o, s => ((acc, o), s, 0)
  | m + 1, acc, o, s => thenP ([], false) (takeRow o s) fun x s => takeRs m (acc ++ [x.1]) x.2 s
/-- all parts of a text -/
def takeAll (s : List UInt8) : (List TRow × Bool) × List UInt8 × Int := thenP ([], false) (takeCount s 64) fun m s => takeRs m [] false s
/-- what is taken of a text -/
noncomputable def endT (x : (List TRow × Bool) × List UInt8 × Int) : List TRow × Int :=
  if x.2.2 ≠ 0 then ([], x.2.2) else if x.1.2 = true ∨ x.2.1 ≠ [] ∨ goodB x.1.1 = false then ([], 3) else (x.1.1, 0)
noncomputable def takeT (s : List UInt8) : List TRow × Int := endT (takeAll s)

theorem takeDs_parses : ∀ (l acc : List (Int × Bool)), (∀ d ∈ l, i64ok d.1) → Parses (takeDs l.length acc false) (l.flatMap decP).flatten (acc ++ l, false)
  | [], acc, _ => by rw [List.append_nil]; exact Parses.nil fun s => rfl
  | x :: l, acc, h => by
    have h1 := h x List.mem_cons_self
    have ih := takeDs_parses l (acc ++ [x]) (fun y hy => h y (List.mem_cons_of_mem _ hy))
    have hy : ((yesN x.2 == 1) = x.2) ∧ decide (1 < yesN x.2) = false := by cases x.2 <;> decide
    have p1 := (takeNum_parses (yesN x.2) (by unfold yesN; split <;> omega)).andThen (bad := (([], false) : List (Int × Bool) × Bool)) (f := fun y s => takeDs l.length (acc ++ [(x.1, y == 1)]) (false || decide (1 < y)) s) (u := (acc ++ [x] ++ l, false)) (by
      simp only [hy.1, hy.2, Bool.or_false]
      exact ih)
    have p2 := (takeWhole_parses x.1 h1).andThen (bad := (([], false) : List (Int × Bool) × Bool)) (f := fun q s => thenP ([], false) (takeNum s) fun y s => takeDs l.length (acc ++ [(q, y == 1)]) (false || decide (1 < y)) s) p1
    rw [List.append_assoc] at p2
    refine p2.same (fun s => rfl) ?_
    rw [List.flatMap_cons, List.flatten_append]
    simp [decP, List.append_assoc]

theorem takeDs_laid : ∀ (m : Nat) (acc : List (Int × Bool)) (o : Bool) (s : List UInt8), (takeDs m acc o s).2.2 = 0 → (takeDs m acc o s).1.2 = false → o = false ∧ ∃ l : List (Int × Bool), l.length = m ∧ (takeDs m acc o s).1.1 = acc ++ l ∧ s = (l.flatMap decP).flatten ++ (takeDs m acc o s).2.1 ∧ ∀ d ∈ l, i64ok d.1
  | 0, acc, o, s, _, h2 => ⟨h2, [], rfl, by simp [takeDs], by simp [takeDs], fun x hx => (by cases hx)⟩
  | m + 1, acc, o, s, h, h2 => by
    rw [takeDs] at h h2 ⊢
    have h1 := thenP_zero h
    rw [thenP_ok h1] at h h2 ⊢
    have h3 := thenP_zero h
    rw [thenP_ok h3] at h h2 ⊢
    obtain ⟨ho, l, e1, e2, e3, e4⟩ := takeDs_laid m _ _ _ h h2
    simp only [Bool.or_eq_false_iff, decide_eq_false_iff_not] at ho
    have w1 := takeWhole_laid s h1
    have w2 := takeNum_laid _ h3
    have hy : yesN ((takeNum (takeWhole s).2.1).1 == 1) = (takeNum (takeWhole s).2.1).1 := by
      have := ho.2
      generalize (takeNum (takeWhole s).2.1).1 = y at *
      unfold yesN
      by_cases hy : y = 1
      · simp [hy]
      · have : y = 0 := by omega
        simp [this]
    refine ⟨ho.1, ((takeWhole s).1, (takeNum (takeWhole s).2.1).1 == 1) :: l, by simp [e1], by rw [e2, List.append_assoc]; rfl, ?_, fun x hx => ?_⟩
    · rw [List.flatMap_cons, List.flatten_append]
      simp only [decP, hy, List.flatten_cons, List.flatten_nil, List.append_nil, List.append_assoc]
      rw [← e3, ← w2]
      exact w1
    · rcases List.mem_cons.1 hx with rfl | hx
      · exact (takeWhole_bd s).1
      · exact e4 x hx

/-- a row that may be taken -/
def RowT (r : TRow) : Prop := i64ok r.client ∧ i64ok r.epoch ∧ i64ok r.done ∧ r.l.length ≤ 256 ∧ ∀ d ∈ r.l, i64ok d.1

theorem takeRow_parses (r : TRow) (h : RowT r) : Parses (takeRow false) (rowP r).flatten (r, false) := by
  obtain ⟨h1, h2, h3, h4, h5⟩ := h
  have hend : Parses (fun s => (((⟨r.client, r.epoch, r.done, r.l⟩ : TRow), false), s, (0 : Int))) [] (r, false) := Parses.nil fun s => rfl
  have p5 := (takeDs_parses r.l [] h5).andThen (bad := (row0, false)) (f := fun x s => (((⟨r.client, r.epoch, r.done, x.1⟩ : TRow), x.2), s, (0 : Int))) hend
  have p4 := (takeCount_parses r.l.length 256 (by omega) (by omega)).andThen (bad := (row0, false)) (f := fun m s => thenP (row0, false) (takeDs m [] false s) fun x s => (((⟨r.client, r.epoch, r.done, x.1⟩ : TRow), x.2), s, (0 : Int))) p5
  have p3 := (takeWhole_parses r.done h3).andThen (bad := (row0, false)) (f := fun d s => thenP (row0, false) (takeCount s 256) fun m s => thenP (row0, false) (takeDs m [] false s) fun x s => (((⟨r.client, r.epoch, d, x.1⟩ : TRow), x.2), s, (0 : Int))) p4
  have p2 := (takeWhole_parses r.epoch h2).andThen (bad := (row0, false)) (f := fun e s => thenP (row0, false) (takeWhole s) fun d s => thenP (row0, false) (takeCount s 256) fun m s => thenP (row0, false) (takeDs m [] false s) fun x s => (((⟨r.client, e, d, x.1⟩ : TRow), x.2), s, (0 : Int))) p3
  have p1 := (takeWhole_parses r.client h1).andThen (bad := (row0, false)) (f := fun c s => thenP (row0, false) (takeWhole s) fun e s => thenP (row0, false) (takeWhole s) fun d s => thenP (row0, false) (takeCount s 256) fun m s => thenP (row0, false) (takeDs m [] false s) fun x s => (((⟨c, e, d, x.1⟩ : TRow), x.2), s, (0 : Int))) p2
  refine p1.same (fun s => rfl) ?_
  unfold rowP headP
  simp

theorem takeRow_laid (o : Bool) (s : List UInt8) (h : (takeRow o s).2.2 = 0) (h2 : (takeRow o s).1.2 = false) : o = false ∧ s = (rowP (takeRow o s).1.1).flatten ++ (takeRow o s).2.1 ∧ RowT (takeRow o s).1.1 := by
  unfold takeRow at h h2 ⊢
  have h1 := thenP_zero h
  rw [thenP_ok h1] at h h2 ⊢
  have k1 := thenP_zero h
  rw [thenP_ok k1] at h h2 ⊢
  have k2 := thenP_zero h
  rw [thenP_ok k2] at h h2 ⊢
  have k3 := thenP_zero h
  rw [thenP_ok k3] at h h2 ⊢
  have k4 := thenP_zero h
  rw [thenP_ok k4] at h h2 ⊢
  have a1 := takeWhole_laid _ h1
  have b1 := (takeWhole_bd s).1
  have a2 := takeWhole_laid _ k1
  have b2 := (takeWhole_bd (takeWhole s).2.1).1
  have a3 := takeWhole_laid _ k2
  have b3 := (takeWhole_bd (takeWhole (takeWhole s).2.1).2.1).1
  have a4 := takeCount_laid _ _ k3
  obtain ⟨ho, l, e1, e2, e3, e4⟩ := takeDs_laid _ _ _ _ k4 h2
  refine ⟨ho, ?_, b1, b2, b3, ?_, ?_⟩
  · simp only [rowP, headP, e2, List.nil_append, List.flatten_append, List.flatten_cons, List.flatten_nil, List.append_nil, List.append_assoc, e1]
    rw [← e3, ← a4.1, ← a3, ← a2]
    exact a1
  · simp only [e2, List.nil_append, e1]
    have := a4.2.1
    omega
  · simp only [e2, List.nil_append]
    exact e4

theorem takeRs_parses : ∀ (l acc : List TRow), (∀ r ∈ l, RowT r) → Parses (takeRs l.length acc false) (l.flatMap rowP).flatten (acc ++ l, false)
  | [], acc, _ => by rw [List.append_nil]; exact Parses.nil fun s => rfl
  | x :: l, acc, h => by
    have ih := takeRs_parses l (acc ++ [x]) (fun y hy => h y (List.mem_cons_of_mem _ hy))
    have p2 := (takeRow_parses x (h x List.mem_cons_self)).andThen (bad := (([], false) : List TRow × Bool)) (f := fun q s => takeRs l.length (acc ++ [q.1]) q.2 s) ih
    rw [List.append_assoc] at p2
    refine p2.same (fun s => rfl) ?_
    rw [List.flatMap_cons, List.flatten_append]

theorem takeRs_laid : ∀ (m : Nat) (acc : List TRow) (o : Bool) (s : List UInt8), (takeRs m acc o s).2.2 = 0 → (takeRs m acc o s).1.2 = false → o = false ∧ ∃ l : List TRow, l.length = m ∧ (takeRs m acc o s).1.1 = acc ++ l ∧ s = (l.flatMap rowP).flatten ++ (takeRs m acc o s).2.1 ∧ ∀ r ∈ l, RowT r
  | 0, acc, o, s, _, h2 => ⟨h2, [], rfl, by simp [takeRs], by simp [takeRs], fun x hx => (by cases hx)⟩
  | m + 1, acc, o, s, h, h2 => by
    rw [takeRs] at h h2 ⊢
    have h1 := thenP_zero h
    rw [thenP_ok h1] at h h2 ⊢
    obtain ⟨ho, l, e1, e2, e3, e4⟩ := takeRs_laid m _ _ _ h h2
    obtain ⟨w0, w1, w2⟩ := takeRow_laid o s h1 ho
    refine ⟨w0, (takeRow o s).1.1 :: l, by simp [e1], by rw [e2, List.append_assoc]; rfl, ?_, fun x hx => ?_⟩
    · rw [List.flatMap_cons, List.flatten_append, List.append_assoc, ← e3]
      exact w1
    · rcases List.mem_cons.1 hx with rfl | hx
      · exact w2
      · exact e4 x hx

theorem takeAll_parses (l : List TRow) (hl : l.length ≤ 64) (h : ∀ r ∈ l, RowT r) : Parses takeAll (rowsB l) (l, false) := by
  have p := (takeCount_parses l.length 64 (by omega) (by omega)).andThen (bad := (([], false) : List TRow × Bool)) (f := fun m s => takeRs m [] false s) (takeRs_parses l [] h)
  refine p.same (fun s => rfl) ?_
  unfold rowsB rowsP
  rw [List.flatten_cons]

/-- what was told is taken as it was -/
theorem takeT_back {rs : List TRow} (h : Good rs) (ho : ∀ r ∈ rs, RowT r) : takeT (rowsB rs) = (rs, 0) := by
  have h1 := (takeAll_parses rs h.1 ho).1 []
  rw [List.append_nil] at h1
  unfold takeT endT
  rw [h1]
  simp [goodB_true h]
/-- no beginning of it is -/
theorem takeT_cut {rs : List TRow} (h : Good rs) (ho : ∀ r ∈ rs, RowT r) (c : Nat) (hc : c < (rowsB rs).length) : takeT ((rowsB rs).take c) = ([], 2) := by
  have h1 := (takeAll_parses rs h.1 ho).2 c hc
  unfold takeT endT
  rw [h1]
  rfl
/-- what is taken was told -/
theorem takeT_laid (s : List UInt8) (h : (takeT s).2 = 0) : rowsB (takeT s).1 = s ∧ goodB (takeT s).1 = true ∧ ∀ r ∈ (takeT s).1, RowT r := by
  unfold takeT endT at h ⊢
  by_cases h1 : (takeAll s).2.2 = 0
  · rw [if_neg (by simpa using h1)] at h ⊢
    by_cases h2 : (takeAll s).1.2 = true ∨ (takeAll s).2.1 ≠ [] ∨ goodB (takeAll s).1.1 = false
    · rw [if_pos h2] at h
      cases h
    · rw [if_neg h2]
      simp only [not_or, Bool.not_eq_true, ne_eq, Classical.not_not, Bool.not_eq_false] at h2
      obtain ⟨k1, k2, k3⟩ := h2
      unfold takeAll at h1 k1 k2 k3 ⊢
      have j1 := thenP_zero h1
      rw [thenP_ok j1] at h1 k1 k2 k3 ⊢
      obtain ⟨-, l, e1, e2, e3, e4⟩ := takeRs_laid _ _ _ _ h1 k1
      have a := takeCount_laid _ _ j1
      rw [e2, List.nil_append] at k3 ⊢
      refine ⟨?_, k3, e4⟩
      unfold rowsB rowsP
      rw [k2, List.append_nil] at e3
      rw [List.flatten_cons, e1, ← e3]
      exact a.1.symm
  · rw [if_pos h1] at h
    exact absurd h h1

theorem takeDs_bd : ∀ (m : Nat) (acc : List (Int × Bool)) (o : Bool) (s : List UInt8), 0 ≤ (takeDs m acc o s).2.2 ∧ (takeDs m acc o s).2.2 ≤ 5 ∧ (takeDs m acc o s).2.1.length ≤ s.length ∧ (takeDs m acc o s).1.1.length ≤ acc.length + m
  | 0, acc, o, s => by simp [takeDs]
  | m + 1, acc, o, s => by
    rw [takeDs]
    have b1 := takeWhole_bd s
    by_cases h1 : (takeWhole s).2.2 = 0
    · rw [thenP_ok h1]
      have b2 := takeNum_bd (takeWhole s).2.1
      by_cases h2 : (takeNum (takeWhole s).2.1).2.2 = 0
      · rw [thenP_ok h2]
        have := takeDs_bd m (acc ++ [((takeWhole s).1, (takeNum (takeWhole s).2.1).1 == 1)]) (o || decide (1 < (takeNum (takeWhole s).2.1).1)) (takeNum (takeWhole s).2.1).2.1
        simp only [List.length_append, List.length_cons, List.length_nil] at this
        omega
      · rw [thenP_no h2]
        simp only [List.length_nil]
        omega
    · rw [thenP_no h1]
      simp only [List.length_nil]
      omega
end Go.Proofs.Ythnajmfbomedlaa
