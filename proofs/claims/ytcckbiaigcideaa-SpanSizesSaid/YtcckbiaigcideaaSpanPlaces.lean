/- Rows of spans and their places: of clean rows (apart, in order) there is one for each set of places; how many places a row has. Plain mathematics: nothing of the program. -/
import Derived.Test.YtcckbiaigcideaaSpanHas
set_option linter.unusedVariables false
namespace Go.Proofs.Ytcckbiaigcideaa
open Copyhold

/-- spans that stand apart, in order, behind a place -/
def Cl : Int → List (Nat × Nat) → Prop
  | _, [] => True
  | lo, p :: ys => lo < (p.1 : Int) ∧ 1 ≤ p.2 ∧ Cl ((p.1 : Int) + p.2) ys
def endOf : Int → List (Nat × Nat) → Int
  | lo, [] => lo
  | _, p :: ys => endOf ((p.1 : Int) + p.2) ys

theorem hasD_cons (p : Nat × Nat) (ys : List (Nat × Nat)) (t : Int) : hasD (p :: ys) t = (hasOne p t || hasD ys t) := rfl
theorem hasD_append (xs ys : List (Nat × Nat)) (t : Int) : hasD (xs ++ ys) t = (hasD xs t || hasD ys t) := List.any_append
theorem hasOne_iff (p : Nat × Nat) (t : Int) : hasOne p t = true ↔ (p.1 : Int) ≤ t ∧ t < (p.1 : Int) + p.2 := by simp [hasOne]
theorem hasOne_no (p : Nat × Nat) (t : Int) : hasOne p t = false ↔ ¬ ((p.1 : Int) ≤ t ∧ t < (p.1 : Int) + p.2) := by
  rw [← hasOne_iff]
  simp

theorem cl_snoc (ys : List (Nat × Nat)) (lo : Int) (p : Nat × Nat) : Cl lo (ys ++ [p]) ↔ Cl lo ys ∧ endOf lo ys < (p.1 : Int) ∧ 1 ≤ p.2 := by
  induction ys generalizing lo with
  | nil => simp [Cl, endOf]
  | cons q ys ih => simp only [List.cons_append, Cl, endOf, ih, and_assoc]
theorem endOf_snoc (ys : List (Nat × Nat)) (lo : Int) (p : Nat × Nat) : endOf lo (ys ++ [p]) = (p.1 : Int) + p.2 := by
  induction ys generalizing lo with
  | nil => rfl
  | cons q ys ih => exact ih _
theorem cl_lt {ys : List (Nat × Nat)} {lo : Int} (h : Cl lo ys) : ∀ r ∈ ys, lo < (r.1 : Int) := by
  induction ys generalizing lo with
  | nil => intro r hr; cases hr
  | cons p ys ih =>
    intro r hr
    rcases List.mem_cons.1 hr with rfl | hr
    · exact h.1
    · have := ih h.2.2 r hr
      have := h.1
      omega
theorem cl_none {ys : List (Nat × Nat)} {lo : Int} (h : Cl lo ys) (t : Int) (ht : t ≤ lo) : hasD ys t = false := by
  unfold hasD
  rw [List.any_eq_false]
  intro r hr hh
  have := cl_lt h r hr
  have := (hasOne_iff r t).1 hh
  omega

/-- of clean rows there is one for each set of places -/
theorem cl_unique {ys zs : List (Nat × Nat)} {lo : Int} (h : Cl lo ys) (h' : Cl lo zs) (hh : ∀ t, hasD ys t = hasD zs t) : ys = zs := by
  induction ys generalizing lo zs with
  | nil =>
    cases zs with
    | nil => rfl
    | cons q zs =>
      have := hh q.1
      rw [hasD_cons, (hasOne_iff q q.1).2 ⟨by omega, by have := h'.2.1; omega⟩] at this
      exact absurd this (by simp [hasD])
  | cons p ys ih =>
    cases zs with
    | nil =>
      have := hh p.1
      rw [hasD_cons, (hasOne_iff p p.1).2 ⟨by omega, by have := h.2.1; omega⟩] at this
      exact absurd this (by simp [hasD])
    | cons q zs =>
      obtain ⟨a1, a2, a3⟩ := h
      obtain ⟨b1, b2, b3⟩ := h'
      have first : ∀ {p q : Nat × Nat} {ys zs : List (Nat × Nat)}, 1 ≤ p.2 → Cl ((q.1 : Int) + q.2) zs → (∀ t, hasD (p :: ys) t = hasD (q :: zs) t) → q.1 ≤ p.1 := by
        intro p q ys zs hp hz hh
        have := hh p.1
        rw [hasD_cons, (hasOne_iff p p.1).2 ⟨by omega, by omega⟩, Bool.true_or] at this
        have := this.symm
        refine Classical.byContradiction fun hn => ?_
        rw [hasD_cons, (hasOne_no q p.1).2 (by omega), cl_none hz _ (by omega)] at this
        cases this
      have hf : p.1 = q.1 := Nat.le_antisymm (first b2 a3 fun t => (hh t).symm) (first a2 b3 hh)
      have last : ∀ {p q : Nat × Nat} {ys zs : List (Nat × Nat)}, p.1 = q.1 → Cl ((p.1 : Int) + p.2) ys → (∀ t, hasD (p :: ys) t = hasD (q :: zs) t) → q.2 ≤ p.2 := by
        intro p q ys zs he hy hh
        refine Classical.byContradiction fun hn => ?_
        have := hh ((p.1 : Int) + p.2)
        rw [hasD_cons, hasD_cons, (hasOne_iff q _).2 ⟨by omega, by omega⟩, Bool.true_or, (hasOne_no p _).2 (by omega), cl_none hy _ (by omega)] at this
        cases this
      have hs : p.2 = q.2 := Nat.le_antisymm (last hf.symm b3 fun t => (hh t).symm) (last hf a3 hh)
      have hpq : p = q := Prod.ext hf hs
      subst hpq
      rw [ih a3 b3 fun t => ?_]
      by_cases ht : t ≤ (p.1 : Int) + p.2
      · rw [cl_none a3 t ht, cl_none b3 t ht]
      · have := hh t
        rwa [hasD_cons, hasD_cons, (hasOne_no p t).2 (by omega), Bool.false_or, Bool.false_or] at this

/-- what the spans told so far have come to -/
structure Inv (xs : List (Nat × Nat)) (k : Nat) (out : List (Nat × Nat)) : Prop where
  cl : Cl (-1) out
  has : ∀ t, hasD out t = hasD (xs.take k) t
  top : ∀ q ∈ out, q.1 + q.2 ≤ 1099511627776
  len : out.length ≤ k
  low : ∀ q ∈ out, ∀ j (h : j < xs.length), k ≤ j → q.1 ≤ xs[j].1

theorem Inv.start (xs : List (Nat × Nat)) : Inv xs 0 [] := ⟨trivial, fun _ => rfl, fun q h => (by cases h), Nat.le_refl _, fun q h => (by cases h)⟩
theorem has_take (xs : List (Nat × Nat)) (k : Nat) (h : k < xs.length) (t : Int) : hasD (xs.take (k + 1)) t = (hasD (xs.take k) t || hasOne xs[k] t) := by
  rw [List.take_succ_eq_append_getElem h, hasD_append]
  congr 1
  show (hasOne xs[k] t || false) = _
  rw [Bool.or_false]
theorem Inv.skip {xs out : List (Nat × Nat)} {k : Nat} (hi : Inv xs k out) (h : k < xs.length) (h0 : xs[k].2 = 0) : Inv xs (k + 1) out :=
  ⟨hi.cl, fun t => by rw [has_take xs k h, (hasOne_no _ t).2 (by omega), Bool.or_false]; exact hi.has t, hi.top, Nat.le_succ_of_le hi.len, fun q hq j hj hkj => hi.low q hq j hj (by omega)⟩
theorem Inv.push {xs out : List (Nat × Nat)} {k : Nat} (hi : Inv xs k out) (h : k < xs.length) (h0 : xs[k].2 ≠ 0) (ht : xs[k].1 + xs[k].2 ≤ 1099511627776) (hs : ∀ i j (hi : i < xs.length) (hj : j < xs.length), i < j → xs[i].1 ≤ xs[j].1)
    (hl : endOf (-1) out < (xs[k].1 : Int)) : Inv xs (k + 1) (out ++ [xs[k]]) := by
  refine ⟨(cl_snoc _ _ _).2 ⟨hi.cl, hl, by omega⟩, fun t => ?_, ?_, ?_, ?_⟩
  · rw [has_take xs k h, hasD_append, hi.has t]
    congr 1
    show (hasOne xs[k] t || false) = _
    rw [Bool.or_false]
  · intro q hq
    rcases List.mem_append.1 hq with hq | hq
    · exact hi.top q hq
    · rw [List.mem_singleton.1 hq]
      exact ht
  · have := hi.len
    simp
    exact this
  · intro q hq j hj hkj
    rcases List.mem_append.1 hq with hq | hq
    · exact hi.low q hq j hj (by omega)
    · rw [List.mem_singleton.1 hq]
      exact hs k j h hj (by omega)
theorem Inv.join {xs pre : List (Nat × Nat)} {l : Nat × Nat} {k : Nat} (hi : Inv xs k (pre ++ [l])) (h : k < xs.length) (h0 : xs[k].2 ≠ 0) (ht : xs[k].1 + xs[k].2 ≤ 1099511627776)
    (hl : xs[k].1 ≤ l.1 + l.2) : Inv xs (k + 1) (pre ++ [(l.1, max (l.1 + l.2) (xs[k].1 + xs[k].2) - l.1)]) := by
  have hlm : l ∈ pre ++ [l] := List.mem_append.2 (.inr (List.mem_singleton.2 rfl))
  have hlow := hi.low l hlm k h (Nat.le_refl _)
  have htop := hi.top l hlm
  obtain ⟨c1, c2, c3⟩ := (cl_snoc _ _ _).1 hi.cl
  refine ⟨(cl_snoc _ _ _).2 ⟨c1, c2, by simp only; omega⟩, fun t => ?_, ?_, ?_, ?_⟩
  · rw [has_take xs k h, ← hi.has t, hasD_append, hasD_append, Bool.or_assoc]
    congr 1
    show (hasOne (l.1, max (l.1 + l.2) (xs[k].1 + xs[k].2) - l.1) t || false) = ((hasOne l t || false) || hasOne xs[k] t)
    rw [Bool.or_false, Bool.or_false]
    generalize xs[k] = p at *
    by_cases h1 : hasOne l t = true
    · rw [h1, Bool.true_or, hasOne_iff]
      rw [hasOne_iff] at h1
      simp only
      omega
    · have h1 := Bool.eq_false_iff.2 h1
      rw [h1, Bool.false_or]
      rw [hasOne_no] at h1
      by_cases h2 : hasOne p t = true
      · rw [h2, hasOne_iff]
        rw [hasOne_iff] at h2
        simp only
        omega
      · have h2 := Bool.eq_false_iff.2 h2
        rw [h2, hasOne_no]
        rw [hasOne_no] at h2
        simp only
        omega
  · intro q hq
    rcases List.mem_append.1 hq with hq | hq
    · exact hi.top q (List.mem_append.2 (.inl hq))
    · rw [List.mem_singleton.1 hq]
      simp only
      omega
  · have := hi.len
    simp at this ⊢
    omega
  · intro q hq j hj hkj
    rcases List.mem_append.1 hq with hq | hq
    · exact hi.low q (List.mem_append.2 (.inl hq)) j hj (by omega)
    · rw [List.mem_singleton.1 hq]
      exact hi.low l hlm j hj (by omega)

/-- how many places there are below one -/
def cnt (f : Int → Bool) : Nat → Nat
  | 0 => 0
  | n + 1 => cnt f n + (f n).toNat
def total (xs : List (Nat × Nat)) : Nat := (xs.map (·.2)).sum
theorem total_cons (p : Nat × Nat) (xs : List (Nat × Nat)) : total (p :: xs) = p.2 + total xs := by simp [total]
theorem total_take (xs : List (Nat × Nat)) (k : Nat) (h : k < xs.length) : total (xs.take (k + 1)) = total (xs.take k) + xs[k].2 := by
  unfold total
  rw [List.take_succ_eq_append_getElem h, List.map_append, List.sum_append]
  simp only [List.map_cons, List.map_nil, List.sum_cons, List.sum_nil, Nat.add_zero]
theorem cnt_mono {f g : Int → Bool} (h : ∀ t, f t = true → g t = true) (n : Nat) : cnt f n ≤ cnt g n := by
  induction n with
  | zero => exact Nat.le_refl _
  | succ n ih =>
    have := h n
    show cnt f n + (f n).toNat ≤ cnt g n + (g n).toNat
    cases hf : f n
    · simp
      omega
    · rw [this hf]
      omega
theorem cnt_congr {f g : Int → Bool} (h : ∀ t, f t = g t) (n : Nat) : cnt f n = cnt g n := by rw [show f = g from funext h]
theorem cnt_or (f g : Int → Bool) (n : Nat) : cnt (fun t => f t || g t) n ≤ cnt f n + cnt g n := by
  induction n with
  | zero => exact Nat.le_refl _
  | succ n ih =>
    show cnt (fun t => f t || g t) n + (f n || g n).toNat ≤ cnt f n + (f n).toNat + (cnt g n + (g n).toNat)
    cases f n <;> cases g n <;> simp <;> omega
theorem cnt_apart (f g : Int → Bool) (h : ∀ t, f t = true → g t = false) (n : Nat) : cnt (fun t => f t || g t) n = cnt f n + cnt g n := by
  induction n with
  | zero => rfl
  | succ n ih =>
    show cnt (fun t => f t || g t) n + (f n || g n).toNat = cnt f n + (f n).toNat + (cnt g n + (g n).toNat)
    have := h n
    cases hf : f n
    · cases g n <;> simp <;> omega
    · rw [this hf]
      simp
      omega
theorem cnt_none (n : Nat) : cnt (fun _ => false) n = 0 := by
  induction n with
  | zero => rfl
  | succ n ih =>
    show cnt _ n + 0 = 0
    rw [ih]
theorem cnt_one (p : Nat × Nat) (n : Nat) : cnt (hasOne p) n = min n (p.1 + p.2) - min n p.1 := by
  induction n with
  | zero => simp [cnt]
  | succ n ih =>
    show cnt (hasOne p) n + (hasOne p n).toNat = _
    rw [ih]
    by_cases h : hasOne p n = true
    · rw [h]
      rw [hasOne_iff] at h
      simp
      omega
    · have h := Bool.eq_false_iff.2 h
      rw [h]
      rw [hasOne_no] at h
      simp
      omega
theorem cnt_span (p : Nat × Nat) (n : Nat) (h : p.1 + p.2 ≤ n) : cnt (hasOne p) n = p.2 := by
  rw [cnt_one]
  omega
/-- a clean row's spans together have as many places as there are -/
theorem cnt_clean {ys : List (Nat × Nat)} {lo : Int} (h : Cl lo ys) (n : Nat) (ht : ∀ q ∈ ys, q.1 + q.2 ≤ n) : cnt (hasD ys) n = total ys := by
  induction ys generalizing lo with
  | nil => exact cnt_none n
  | cons p ys ih =>
    rw [total_cons, ← ih h.2.2 fun q hq => ht q (List.mem_cons_of_mem _ hq), ← cnt_span p n (ht p (List.mem_cons_self ..)), ← cnt_apart]
    · exact cnt_congr (fun t => hasD_cons p ys t) n
    · intro t h1
      have := (hasOne_iff p t).1 h1
      exact cl_none h.2.2 t (by omega)
theorem cnt_total (xs : List (Nat × Nat)) (n : Nat) (ht : ∀ q ∈ xs, q.1 + q.2 ≤ n) : cnt (hasD xs) n ≤ total xs := by
  induction xs with
  | nil => exact Nat.le_of_eq (cnt_none n)
  | cons p xs ih =>
    rw [total_cons, cnt_congr (fun t => hasD_cons p xs t)]
    refine Nat.le_trans (cnt_or _ _ n) ?_
    rw [cnt_span p n (ht p (List.mem_cons_self ..))]
    have := ih fun q hq => ht q (List.mem_cons_of_mem _ hq)
    omega
theorem cnt_mem (xs : List (Nat × Nat)) (n : Nat) (p : Nat × Nat) (h : p ∈ xs) (ht : p.1 + p.2 ≤ n) : p.2 ≤ cnt (hasD xs) n := by
  rw [← cnt_span p n ht]
  refine cnt_mono (fun t hp => ?_) n
  unfold hasD
  rw [List.any_eq_true]
  exact ⟨p, h, hp⟩
theorem cnt_more (xs : List (Nat × Nat)) (s : Nat × Nat) (n : Nat) (hs : s.1 + s.2 ≤ n) : cnt (hasD xs) n ≤ cnt (hasD (xs ++ [s])) n ∧ cnt (hasD (xs ++ [s])) n ≤ cnt (hasD xs) n + s.2 := by
  have he : ∀ t, hasD (xs ++ [s]) t = (hasD xs t || hasOne s t) := fun t => by
    rw [hasD_append]
    congr 1
    show (hasOne s t || false) = _
    rw [Bool.or_false]
  constructor
  · refine cnt_mono (fun t h => ?_) n
    rw [he, h, Bool.true_or]
  · rw [cnt_congr he]
    refine Nat.le_trans (cnt_or _ _ n) ?_
    rw [cnt_span s n hs]
    exact Nat.le_refl _
theorem cnt_top (f : Int → Bool) (n : Nat) : cnt f n ≤ n := by
  induction n with
  | zero => exact Nat.le_refl _
  | succ n ih =>
    show cnt f n + (f n).toNat ≤ n + 1
    have := Bool.toNat_le (f n)
    omega
theorem total_top (xs : List (Nat × Nat)) (n : Nat) (ht : ∀ q ∈ xs, q.1 + q.2 ≤ n) : total xs ≤ xs.length * n := by
  induction xs with
  | nil => exact Nat.zero_le _
  | cons p xs ih =>
    rw [total_cons, List.length_cons, Nat.succ_mul]
    have := ih fun q hq => ht q (List.mem_cons_of_mem _ hq)
    have := ht p (List.mem_cons_self ..)
    omega

/-- a row turned round, or told in another order, has the same places -/
theorem has_perm {xs ys : List (Nat × Nat)} (h : xs.Perm ys) (t : Int) : hasD xs t = hasD ys t := by
  unfold hasD
  rw [Bool.eq_iff_iff, List.any_eq_true, List.any_eq_true]
  exact ⟨fun ⟨p, hp, hh⟩ => ⟨p, h.mem_iff.1 hp, hh⟩, fun ⟨p, hp, hh⟩ => ⟨p, h.mem_iff.2 hp, hh⟩⟩

/-- the clean row of a row's places -/
def CleanOf (xs ys : List (Nat × Nat)) : Prop := Cl (-1) ys ∧ (∀ t, hasD ys t = hasD xs t) ∧ (∀ q ∈ ys, q.1 + q.2 ≤ 1099511627776) ∧ ys.length ≤ xs.length
theorem CleanOf.unique {xs xs' ys zs : List (Nat × Nat)} (h : CleanOf xs ys) (h' : CleanOf xs' zs) (hh : ∀ t, hasD xs t = hasD xs' t) : ys = zs :=
  cl_unique h.1 h'.1 fun t => by rw [h.2.1 t, h'.2.1 t, hh t]
theorem CleanOf.total {xs ys : List (Nat × Nat)} (h : CleanOf xs ys) : total ys = cnt (hasD xs) 1099511627776 := by
  rw [← cnt_clean h.1 _ h.2.2.1]
  exact cnt_congr h.2.1 _
end Go.Proofs.Ytcckbiaigcideaa
