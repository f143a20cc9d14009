/- Layer 6, without a program: what a path is split into. -/
import Derived.Test.YtibcmgmlklehdaaNameP
set_option linter.unusedVariables false
namespace Copyhold.Name

/-- what stands between slashes -/
def pieces : List UInt8 → List (List UInt8)
  | [] => [[]]
  | c :: l => if c = 47 then [] :: pieces l else match pieces l with
    | p :: r => (c :: p) :: r
    | [] => [[c]]

theorem pieces_ne (l : List UInt8) : pieces l ≠ [] := by
  cases l with
  | nil => simp [pieces]
  | cons c l =>
    unfold pieces
    split
    · simp
    · split <;> simp

/-- what counts -/
def counts (s : List UInt8) : Bool := !(s == []) && !(s == [46])
def namesP (l : List UInt8) : List (List UInt8) := (pieces l).filter counts

/-- a text without a slash is one piece -/
theorem pieces_one {l : List UInt8} (h : (47 : UInt8) ∉ l) : pieces l = [l] := by
  induction l with
  | nil => rfl
  | cons c l ih =>
    simp only [List.mem_cons, not_or] at h
    rw [pieces, if_neg (Ne.symm h.1), ih h.2]
theorem pieces_cut {a b : List UInt8} (h : (47 : UInt8) ∉ a) : pieces (a ++ 47 :: b) = a :: pieces b := by
  induction a with
  | nil => rw [List.nil_append, pieces, if_pos rfl]
  | cons c l ih =>
    simp only [List.mem_cons, not_or] at h
    rw [List.cons_append, pieces, if_neg (Ne.symm h.1), ih h.2]

theorem names_one {l : List UInt8} (h : (47 : UInt8) ∉ l) : namesP l = if counts l then [l] else [] := by
  rw [namesP, pieces_one h]
  simp only [List.filter_cons, List.filter_nil]
theorem names_cut {a b : List UInt8} (h : (47 : UInt8) ∉ a) : namesP (a ++ 47 :: b) = (if counts a then [a] else []) ++ namesP b := by
  rw [namesP, pieces_cut h, List.filter_cons]
  split <;> rfl

/-- a path's names, or why not -/
def splitD (p : List UInt8) : List (List UInt8) × Int :=
  if p.head? = some 47 then (if (namesP p).all okN then (namesP p, 0) else ([], 10)) else ([], 10)

/-- where the first slash is -/
def cutAt : List UInt8 → List UInt8 × List UInt8 × Bool
  | [] => ([], [], false)
  | c :: l => if c = 47 then ([], l, true) else (c :: (cutAt l).1, (cutAt l).2)

theorem cutAt_spec (l : List UInt8) : (47 : UInt8) ∉ (cutAt l).1 ∧ (if (cutAt l).2.2 then l = (cutAt l).1 ++ 47 :: (cutAt l).2.1 else l = (cutAt l).1 ∧ (cutAt l).2.1 = []) := by
  induction l with
  | nil => simp [cutAt]
  | cons c l ih =>
    unfold cutAt
    split
    · rename_i h
      simp [h]
    · rename_i h
      refine ⟨by simp [Ne.symm h, ih.1], ?_⟩
      have h2 := ih.2
      simp only
      split
      · rename_i ht
        rw [if_pos ht] at h2
        rw [List.cons_append, ← h2]
      · rename_i ht
        rw [if_neg ht] at h2
        exact ⟨by rw [← h2.1], h2.2⟩

/-- one step of taking the names apart -/
theorem names_step (l : List UInt8) : namesP l = (if counts (cutAt l).1 then [(cutAt l).1] else []) ++ (if (cutAt l).2.2 then namesP (cutAt l).2.1 else []) := by
  have ⟨h1, h2⟩ := cutAt_spec l
  generalize (cutAt l).1 = a at *
  generalize (cutAt l).2.1 = b at *
  generalize (cutAt l).2.2 = t at *
  cases t
  · simp only [Bool.false_eq_true, if_false] at h2 ⊢
    rw [h2.1, names_one h1, List.append_nil]
  · simp only [if_true] at h2 ⊢
    rw [h2, names_cut h1]
theorem cutAt_len (l : List UInt8) : (cutAt l).1.length ≤ l.length ∧ ((cutAt l).2.2 = true → (cutAt l).2.1.length < l.length) := by
  have ⟨h1, h2⟩ := cutAt_spec l
  generalize (cutAt l).1 = a at *
  generalize (cutAt l).2.1 = b at *
  generalize (cutAt l).2.2 = t at *
  cases t
  · simp only [Bool.false_eq_true, if_false] at h2
    rw [h2.1]
    simp
  · simp only [if_true] at h2
    rw [h2]
    simp
    omega
theorem len_names (l : List UInt8) : (namesP l).length ≤ l.length + 1 := by
  have h : ∀ l : List UInt8, (pieces l).length ≤ l.length + 1 := by
    intro l
    induction l with
    | nil => simp [pieces]
    | cons c l ih =>
      unfold pieces
      split
      · simp; omega
      · split
        · rename_i p r h
          rw [h] at ih
          simp at ih ⊢; omega
        · simp
  exact Nat.le_trans (List.length_filter_le _ _) (h l)
theorem okN_counts {s : List UInt8} (h : okN s = true) : counts s = true := by
  simp only [okN, Bool.and_eq_true] at h
  simp only [counts, Bool.and_eq_true]
  exact ⟨h.1.1.1.1.1, h.1.1.1.1.2⟩
theorem okN_slash {s : List UInt8} (h : okN s = true) : (47 : UInt8) ∉ s := by
  simp only [okN, Bool.and_eq_true, Bool.not_eq_true', List.contains_eq_mem, decide_eq_false_iff_not] at h
  exact h.1.2
theorem okN_len {s : List UInt8} (h : okN s = true) : s.length ≤ 32 ∧ s ≠ [] := by
  simp only [okN, Bool.and_eq_true, Bool.not_eq_true', decide_eq_true_eq, beq_eq_false_iff_ne] at h
  exact ⟨h.1.1.2, h.1.1.1.1.1⟩

/-- a path of names -/
def pathOf (ls : List (List UInt8)) : List UInt8 := (ls.map (fun l => (47 : UInt8) :: l)).flatten
theorem names_path (ls : List (List UInt8)) (h : ∀ l ∈ ls, okN l = true) (more : List UInt8) : namesP (pathOf ls ++ 47 :: more) = ls ++ namesP more := by
  have hgo : ∀ (ls : List (List UInt8)) (a : List UInt8), (47 : UInt8) ∉ a → (∀ l ∈ ls, okN l = true) → namesP (a ++ (pathOf ls ++ 47 :: more)) = (if counts a then [a] else []) ++ (ls ++ namesP more) := by
    intro ls
    induction ls with
    | nil =>
      intro a ha _
      rw [show pathOf [] = [] from rfl, List.nil_append, names_cut ha, List.nil_append]
    | cons l ls ih =>
      intro a ha h
      have hl := h l List.mem_cons_self
      rw [show pathOf (l :: ls) = 47 :: (l ++ pathOf ls) from by simp [pathOf], List.cons_append, names_cut ha, List.append_assoc, ih l (okN_slash hl) (fun x hx => h x (List.mem_cons_of_mem _ hx)), okN_counts hl]
      simp
  have := hgo ls [] (by simp) h
  rw [List.nil_append] at this
  rw [this]
  rfl
end Copyhold.Name
