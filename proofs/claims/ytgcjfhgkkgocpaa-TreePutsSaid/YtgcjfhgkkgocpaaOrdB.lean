/- The check of a drawn region's order, cheap things first. Over any program. No conditions beyond each law's own. -/
import Derived.Test.YtgcjfhgkkgocpaaAbsA
set_option linter.unusedVariables false
set_option linter.unusedSimpArgs false
namespace Copyhold
open Go Go.RowKit
def blkB (ops : Array Oper) (l : Array Bool) (i : Nat) : Nat → Nat → Bool
  | 0, _ => false
  | n + 1, j =>
    match ops[j]? with
    | some oj => (oj.after.any fun e => Region.binds .any e && e.on == i) || oj.after.any fun e => Region.binds .any e && (!l.getD e.on true && blkB ops l i n e.on)
    | none => false
theorem blkB_A {ops : Array Oper} {l : Array Bool} {i : Nat} : ∀ n j, blkB ops l i n j = true → blkA ops l i n j = true
  | 0, _, h => by cases h
  | n + 1, j, h => by
    unfold blkB at h
    unfold blkA
    cases hj : ops[j]? with
    | none => rw [hj] at h; cases h
    | some oj =>
      rw [hj] at h
      simp only at h ⊢
      rw [Bool.or_eq_true] at h
      rcases h with h | h
      · obtain ⟨e, he, hb⟩ := Array.any_eq_true'.1 h
        refine Array.any_eq_true'.2 ⟨e, he, ?_⟩
        simp only [Bool.and_eq_true] at hb ⊢
        exact ⟨hb.1, by rw [hb.2]; rfl⟩
      · obtain ⟨e, he, hb⟩ := Array.any_eq_true'.1 h
        refine Array.any_eq_true'.2 ⟨e, he, ?_⟩
        simp only [Bool.and_eq_true, Bool.or_eq_true] at hb ⊢
        exact ⟨hb.1, .inr ⟨hb.2.1, blkB_A n e.on hb.2.2⟩⟩
def freeB (P : Program) (ops : Array Oper) (l : Array Bool) (i : Nat) : Bool :=
  match ops[i]? with
  | none => false
  | some oi => isRd P oi.op && (List.range ops.size).all fun j => j == i || l.getD j true || match ops[j]? with
      | some oj => (oi.apart ops oj && (!isLd oi.op || !isMut oj.op)) || blkB ops l i ops.size j
      | none => true
theorem freeB_A {P : Program} {ops : Array Oper} {l : Array Bool} {i : Nat} (h : freeB P ops l i = true) : freeA P ops l i = true := by
  unfold freeB at h
  unfold freeA
  cases hi : ops[i]? with
  | none => rw [hi] at h; cases h
  | some oi =>
    rw [hi] at h
    simp only [Bool.and_eq_true, List.all_eq_true] at h ⊢
    refine ⟨h.1, fun j hj => ?_⟩
    have := h.2 j hj
    simp only [Bool.or_eq_true] at this ⊢
    rcases this with h1 | h1
    · exact .inl h1
    · refine .inr ?_
      cases hoj : ops[j]? with
      | none => rfl
      | some oj =>
        simp only [hoj, Bool.or_eq_true] at h1 ⊢
        rcases h1 with h2 | h2
        · exact .inr h2
        · exact .inl (blkB_A _ _ h2)
def okOrdB (P : Program) (ops : Array Oper) : List Nat → Array Bool → Bool
  | [], l => (Region.ready .any ops l).isEmpty
  | i :: r, l => (((Region.ready .any ops l).contains i && freeB P ops l i) || Region.ready .any ops l == [i]) && okOrdB P ops r (l.setIfInBounds i true)
theorem okOrdB_A {P : Program} {ops : Array Oper} : ∀ {r : List Nat} {l : Array Bool}, okOrdB P ops r l = true → okOrd P ops r l = true
  | [], l, h => h
  | i :: r, l, h => by
    simp only [okOrdB, okOrd, Bool.and_eq_true, Bool.or_eq_true] at h ⊢
    refine ⟨?_, okOrdB_A h.2⟩
    rcases h.1 with h1 | h1
    · exact .inl ⟨freeB_A h1.2, h1.1⟩
    · exact .inr h1
def okPre (P : Program) (ops : Array Oper) : List Nat → Array Bool → Bool
  | [], _ => true
  | i :: r, l => (((Region.ready .any ops l).contains i && freeB P ops l i) || Region.ready .any ops l == [i]) && okPre P ops r (l.setIfInBounds i true)
def aft : List Nat → Array Bool → Array Bool
  | [], l => l
  | i :: r, l => aft r (l.setIfInBounds i true)
theorem okPre_any {P : Program} {ops : Array Oper} {K : FS → Prop} {f : Nat} : ∀ (r : List Nat) (l : Array Bool) (s : FS), okPre P ops r l = true → SeqR P ops (aAny P ops K f (aft r l)) r s → aAny P ops K (r.length + f) l s
  | [], l, s, _, hs => by
    rw [List.length_nil, Nat.zero_add]; exact hs
  | i :: r, l, s, h, hs => by
    simp only [okPre, Bool.and_eq_true, Bool.or_eq_true] at h
    obtain ⟨h1, h2⟩ := h
    rw [List.length_cons, show r.length + 1 + f = (r.length + f) + 1 from by omega]
    rcases h1 with ⟨hr, hf0⟩ | hr
    · have hf := freeB_A hf0
      unfold freeA at hf
      split at hf
      · cases hf
      · rename_i oi hi
        simp only [Bool.and_eq_true, List.all_eq_true, List.mem_range] at hf
        obtain ⟨hrd, hf⟩ := hf
        obtain ⟨o, ho, hst⟩ := hs
        obtain rfl : oi = o := Option.some.inj (hi.symm.trans ho)
        have hfree : ∀ j oj, ops[j]? = some oj → j ≠ i → l.getD j true = false → (∀ n, blkA ops l i n j = false) → oi.apart ops oj = true ∧ (isLd oi.op = true → isMut oj.op = false) := by
          intro j oj hj hne hun hno
          have h3 := hf j (Array.getElem?_eq_some_iff.1 hj).1
          simp only [hj, Bool.or_eq_true, beq_iff_eq, hne, false_or, hun, Bool.false_eq_true, Bool.and_eq_true, Bool.not_eq_true'] at h3
          rcases h3 with h3 | ⟨h3, h4⟩
          · rw [hno ops.size] at h3; cases h3
          · refine ⟨h3, fun hl => ?_⟩
            rcases h4 with h4 | h4
            · rw [hl] at h4; cases h4
            · exact h4
        have key : ∃ x, Yld P ops oi s x ∧ SeqR P ops (aAny P ops K f (aft r (l.setIfInBounds i true))) r (s.put oi.dst x) := by
          rcases hst with ⟨g, hk⟩ | ⟨g, ⟨x, hx, hk⟩ | ⟨g2, _⟩ | ⟨g2, _⟩⟩
          · exact ⟨.val undef, .inl ⟨g, rfl⟩, hk⟩
          · exact ⟨x, .inr ⟨g, hx⟩, hk⟩
          · rw [hrd] at g2; cases g2
          · rw [hrd] at g2; cases g2
        obtain ⟨x, hy, hk⟩ := key
        exact aAny_first hi (r.length + f) l s hfree (by simpa using hr) hy (okPre_any r _ _ h2 hk)
    · have hr' : Region.ready .any ops l = [i] := by simpa using hr
      refine ⟨fun h => (by rw [h] at hr'; cases hr'), fun j hj => ?_⟩
      rw [hr'] at hj
      obtain rfl : j = i := by simpa using hj
      exact hs.mono fun s' h' => okPre_any r _ s' h2 h'
def okAlt (P : Program) (ops : Array Oper) (l : Array Bool) (f : Nat) (alts : List (List Nat)) : Bool :=
  (Region.ready .any ops l == alts.map (·.headD 0)) && (!alts.isEmpty && alts.all fun a => match a with
    | [] => false
    | i :: r => r.length == f && okOrdB P ops r (l.setIfInBounds i true))
theorem okAlt_any {P : Program} {ops : Array Oper} {K : FS → Prop} {l : Array Bool} {f : Nat} {alts : List (List Nat)} {s : FS} (h : okAlt P ops l f alts = true) (ha : ∀ a ∈ alts, SeqR P ops K a s) : aAny P ops K (f + 1) l s := by
  unfold okAlt at h
  simp only [Bool.and_eq_true, beq_iff_eq, Bool.not_eq_true', List.all_eq_true] at h
  obtain ⟨h1, h2, h3⟩ := h
  refine ⟨fun he => ?_, fun i hi => ?_⟩
  · rw [he] at h1
    cases alts with
    | nil => cases h2
    | cons a r => cases h1
  · rw [h1] at hi
    obtain ⟨a, ham, rfl⟩ := List.mem_map.1 hi
    have h4 := h3 a ham
    have hs := ha a ham
    cases a with
    | nil => cases h4
    | cons i r =>
      simp only [Bool.and_eq_true, beq_iff_eq] at h4
      refine StepR.mono hs fun s' h' => ?_
      have := okOrd_any r _ s' (okOrdB_A h4.2) h'
      rw [h4.1] at this
      exact this
end Copyhold
