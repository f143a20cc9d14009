/- What is put in, and taken out, is found so: the mathematics. -/
import Derived.Test.YtgcjfhgkkgocpaaTreS8
set_option linter.unusedVariables false
set_option linter.unusedSimpArgs false
namespace Go.Proofs.Ytgcjfhgkkgocpaa
open Go Go.RowKit Copyhold
theorem cut_out {l : List Nod} {i : Int} (hr : RiseN l) : ∀ x ∈ outN l i, x.ino ≠ i ∧ x ∈ l := by
  intro x hx
  rw [outN_filter hr] at hx
  obtain ⟨h1, h2⟩ := List.mem_filter.1 hx
  exact ⟨by simpa using h2, h1⟩
theorem out_rise {l : List Nod} {i : Int} (hr : RiseN l) : RiseN (outN l i) := by
  rw [outN_filter hr]
  exact List.Pairwise.filter _ hr
theorem out_rows {f : Fsy} {i : Int} (h : rowsP f) : rowsP (outF f i) := by
  obtain ⟨h1, h2, h3, h4⟩ := rowsP_iff.1 h
  exact rowsP_iff.2 ⟨Nat.le_trans (outN_le f.l i) h1, h2, fun n hn => h3 n (cut_out h4 n hn).2, out_rise h4⟩
theorem find_out {f : Fsy} {i j : Int} (hr : RiseN f.l) : findB (outF f i) j = (if j = i then false else findB f j) ∧ findN (outF f i) j = (if j = i then nod0 else findN f j) := by
  have key : (outN f.l i).find? (isNo j) = if j = i then none else f.l.find? (isNo j) := by
    rw [outN_filter hr, List.find?_filter]
    by_cases h : j = i
    · rw [if_pos h]
      refine List.find?_eq_none.2 fun x _ => ?_
      subst h
      simp [isNo]
    · rw [if_neg h]
      congr 1
      funext x
      by_cases hx : x.ino = j
      · have : ¬ x.ino = i := by omega
        simp [isNo, hx, this, h]
      · simp [isNo, hx]
  have hb : ∀ f : Fsy, findB f j = (f.l.find? (isNo j)).isSome := fun f => by
    unfold findB
    induction f.l with
    | nil => rfl
    | cons n r ih =>
      simp only [List.any_cons, List.find?_cons]
      cases h : isNo j n <;> simp [ih]
  constructor
  · rw [hb, hb]
    show ((outN f.l i).find? (isNo j)).isSome = _
    rw [key]
    split <;> rfl
  · show ((outN f.l i).find? (isNo j)).getD nod0 = _
    rw [key]
    split <;> rfl
theorem out_len {f : Fsy} {i : Int} (hr : RiseN f.l) (h : findB f i = true) : (outF f i).l.length = f.l.length - 1 := by
  rw [findB_eq hr] at h
  have := plN_lt h
  show (outN f.l i).length = _
  unfold outN
  rw [if_pos h]
  simp only [List.length_append, List.length_take, List.length_drop]
  omega
theorem out_same {f : Fsy} {i : Int} (hr : RiseN f.l) (h : findB f i = false) : outF f i = f := by
  rw [findB_eq hr] at h
  show Fsy.mk (outN f.l i) f.next = f
  unfold outN
  rw [if_neg (by rw [h]; simp)]
theorem out_ok {f : Fsy} {i : Int} (okf : OkF f) (hr : RiseN f.l) : OkF (outF f i) := ⟨okf.1, Nat.le_trans (outN_le f.l i) okf.2.1, fun n hn => okf.2.2 n (cut_out hr n hn).2⟩
theorem mem_put {l : List Nod} {n x : Nod} (h : x ∈ putN l n) : x = n ∨ x ∈ l := by
  unfold putN at h
  rcases List.mem_append.1 h with h | h
  · exact .inr (List.mem_of_mem_take h)
  · rcases List.mem_cons.1 h with h | h
    · exact .inl h
    · exact .inr (List.mem_of_mem_drop h)
theorem put_ok {f : Fsy} {n : Nod} (okf : OkF f) (okn : OkN n) (hn : n.ino < 9223372036854775807) (hl : f.l.length ≤ 100000) : OkF (putF f n) := by
  refine ⟨?_, ?_, fun x hx => ?_⟩
  · show I64 (if n.ino + 1 > f.next then n.ino + 1 else f.next)
    split
    · exact ⟨by have := okn.1.1; omega, by omega⟩
    · exact okf.1
  · have := putN_le f.l n
    show (putN f.l n).length ≤ _
    omega
  · rcases mem_put hx with rfl | hx
    · exact okn
    · exact okf.2.2 x hx
theorem put_rise {l : List Nod} {n : Nod} (hr : RiseN l) : RiseN (putN l n) := by
  have hc := hr.cut n.ino
  have e : putN l n = l.take (plN l n.ino) ++ n :: (l.drop (plN l n.ino)).filter (fun x => x.ino != n.ino) := by unfold putN; rw [drop_filter hr]
  rw [e]
  refine List.pairwise_append.2 ⟨List.Pairwise.sublist (List.take_sublist _ _) hr, List.pairwise_cons.2 ⟨fun x hx => ?_, List.Pairwise.filter _ (List.Pairwise.sublist (List.drop_sublist _ _) hr)⟩, fun x hx y hy => ?_⟩
  · obtain ⟨h1, h2⟩ := List.mem_filter.1 hx
    have h3 := hc.2 x h1
    have h4 : ¬ x.ino = n.ino := by simpa using h2
    show n.ino < x.ino
    omega
  · have h1 := hc.1 x hx
    rcases List.mem_cons.1 hy with rfl | hy
    · exact h1
    · have h3 := hc.2 y (List.mem_filter.1 hy).1
      show x.ino < y.ino
      omega
theorem put_rows {f : Fsy} {n : Nod} (h : rowsP f) (hn : nodP n) (hl : f.l.length < 256) : rowsP (putF f n) := by
  obtain ⟨h1, h2, h3, h4⟩ := rowsP_iff.1 h
  have hnx : f.next ≤ (putF f n).next ∧ n.ino + 1 ≤ (putF f n).next := by
    show f.next ≤ (if n.ino + 1 > f.next then n.ino + 1 else f.next) ∧ n.ino + 1 ≤ (if n.ino + 1 > f.next then n.ino + 1 else f.next)
    split <;> omega
  refine rowsP_iff.2 ⟨by have := putN_le f.l n; show (putN f.l n).length ≤ 256; omega, by omega, fun x hx => ?_, put_rise h4⟩
  rcases mem_put hx with rfl | hx
  · exact ⟨hn, by omega⟩
  · have := h3 x hx
    exact ⟨this.1, by omega⟩
theorem find_unique {l : List Nod} {i : Int} {x : Nod} (hr : RiseN l) (hx : x ∈ l) (hi : x.ino = i) : l.find? (isNo i) = some x := by
  cases h : l.find? (isNo i) with
  | none => exact absurd (List.find?_eq_none.1 h x hx) (by simp [isNo, hi])
  | some y =>
    have hy := List.mem_of_find?_eq_some h
    have hp : (y.ino == i) = true := List.find?_some (p := isNo i) h
    obtain ⟨j, hj⟩ := List.getElem?_of_mem hx
    obtain ⟨k, hk⟩ := List.getElem?_of_mem hy
    have h3 := List.pairwise_iff_getElem.1 hr
    have l1 := lt_of_some hj
    have l2 := lt_of_some hk
    have e1 : l[j] = x := Option.some.inj ((List.getElem?_eq_getElem l1).symm.trans hj)
    have e2 : l[k] = y := Option.some.inj ((List.getElem?_eq_getElem l2).symm.trans hk)
    have hyi : y.ino = i := by simpa using hp
    rcases Nat.lt_trichotomy j k with hlt | rfl | hlt
    · have := h3 j k l1 l2 hlt; rw [e1, e2] at this; omega
    · rw [← e1, ← e2]
    · have := h3 k j l2 l1 hlt; rw [e1, e2] at this; omega
theorem findBN (f : Fsy) (j : Int) : findB f j = (f.l.find? (isNo j)).isSome := by
  unfold findB
  induction f.l with
  | nil => rfl
  | cons n r ih =>
    simp only [List.any_cons, List.find?_cons]
    cases h : isNo j n <;> simp [ih]
theorem find_put_self {f : Fsy} {n : Nod} (hr : RiseN f.l) : findB (putF f n) n.ino = true ∧ findN (putF f n) n.ino = n := by
  have h : (putN f.l n).find? (isNo n.ino) = some n := find_unique (put_rise hr) (by unfold putN; simp) rfl
  refine ⟨?_, ?_⟩
  · rw [findBN]; show ((putN f.l n).find? (isNo n.ino)).isSome = true; rw [h]; rfl
  · show ((putN f.l n).find? (isNo n.ino)).getD nod0 = n; rw [h]; rfl
theorem find_put_other {f : Fsy} {n : Nod} {j : Int} (hr : RiseN f.l) (hj : ¬ j = n.ino) : findB (putF f n) j = findB f j ∧ findN (putF f n) j = findN f j := by
  have key : (putN f.l n).find? (isNo j) = f.l.find? (isNo j) := by
    have e : putN f.l n = f.l.take (plN f.l n.ino) ++ n :: (f.l.drop (plN f.l n.ino)).filter (fun x => x.ino != n.ino) := by unfold putN; rw [drop_filter hr]
    have hn : isNo j n = false := by simp [isNo]; omega
    have e2 : ((f.l.drop (plN f.l n.ino)).filter (fun x => x.ino != n.ino)).find? (isNo j) = (f.l.drop (plN f.l n.ino)).find? (isNo j) := by
      rw [List.find?_filter]
      congr 1
      funext x
      by_cases hx : x.ino = j
      · have : ¬ x.ino = n.ino := by omega
        simp [isNo, hx, hj]
      · simp [isNo, hx]
    rw [e, List.find?_append, List.find?_cons, hn, e2]
    conv => rhs; rw [← List.take_append_drop (plN f.l n.ino) f.l, List.find?_append]
  exact ⟨by rw [findBN, findBN]; show ((putN f.l n).find? (isNo j)).isSome = _; rw [key], by show ((putN f.l n).find? (isNo j)).getD nod0 = _; rw [key]; rfl⟩
end Go.Proofs.Ytgcjfhgkkgocpaa
