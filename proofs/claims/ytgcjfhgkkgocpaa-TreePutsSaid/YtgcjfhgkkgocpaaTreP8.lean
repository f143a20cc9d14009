/- File systems: places in rows that rise; what is found, put in, taken out: the mathematics. -/
import Derived.Test.YtgcjfhgkkgocpaaNodW8
set_option linter.unusedVariables false
set_option linter.unusedSimpArgs false
namespace Go.Proofs.Ytgcjfhgkkgocpaa
open Go Go.RowKit Copyhold
section
variable {α : Type}
def placeF (f : α → Int) (l : List α) (n : Int) : Nat := (l.takeWhile fun c => decide (f c < n)).length
def thereF (f : α → Int) (l : List α) (n : Int) : Bool := match l[placeF f l n]? with | some c => f c == n | none => false
def RiseF (f : α → Int) (l : List α) : Prop := l.Pairwise fun c d => f c < f d
theorem placeF_le (f : α → Int) (l : List α) (n : Int) : placeF f l n ≤ l.length := by
  have h := congrArg List.length (List.takeWhile_append_dropWhile (p := fun c => decide (f c < n)) (l := l))
  rw [List.length_append] at h
  unfold placeF; omega
theorem placeF_eq {f : α → Int} {n : Int} : ∀ {l : List α} {k : Nat}, k ≤ l.length → AllTo (fun _ c => f c < n) l k → (∀ x, l[k]? = some x → ¬ f x < n) → placeF f l n = k
  | [], k, hk, _, _ => by simp at hk; subst hk; rfl
  | x :: r, 0, _, _, he => by
    have := he x rfl
    unfold placeF
    simp [this]
  | x :: r, k + 1, hk, h, he => by
    have h1 := h 0 x (by omega) rfl
    have h2 := placeF_eq (l := r) (k := k) (by simpa using hk) (fun j e hj he => h (j + 1) e (by omega) (by simpa using he)) (fun y hy => he y (by simpa using hy))
    unfold placeF at h2 ⊢
    simp [h1, h2]
theorem thereF_at {f : α → Int} {n : Int} {l : List α} {k : Nat} {x : α} (h : placeF f l n = k) (hx : l[k]? = some x) : thereF f l n = (f x == n) := by
  unfold thereF; rw [h, hx]
theorem thereF_end {f : α → Int} {n : Int} {l : List α} (h : placeF f l n = l.length) : thereF f l n = false := by
  unfold thereF; rw [h, List.getElem?_eq_none (Nat.le_refl _)]
theorem thereF_some {f : α → Int} {l : List α} {n : Int} (h : thereF f l n = true) : ∃ c, l[placeF f l n]? = some c ∧ f c = n := by
  unfold thereF at h
  split at h
  · rename_i c hc
    exact ⟨c, hc, by simpa using h⟩
  · cases h
theorem RiseF.le {f : α → Int} {l : List α} (h : RiseF f l) {i j : Nat} {c d : α} (hc : l[i]? = some c) (hd : l[j]? = some d) (hij : i ≤ j) : f c ≤ f d := by
  rcases Nat.lt_or_ge i j with hlt | hge
  · have h3 := List.pairwise_iff_getElem.1 h
    have l1 := lt_of_some hc
    have l2 := lt_of_some hd
    have := h3 i j l1 l2 hlt
    have e1 : l[i] = c := Option.some.inj ((List.getElem?_eq_getElem l1).symm.trans hc)
    have e2 : l[j] = d := Option.some.inj ((List.getElem?_eq_getElem l2).symm.trans hd)
    rw [e1, e2] at this
    omega
  · obtain rfl : i = j := by omega
    rw [hc] at hd
    obtain rfl := Option.some.inj hd
    exact Int.le_refl _
theorem RiseF.cut {f : α → Int} {l : List α} (h : RiseF f l) (n : Int) : (∀ c ∈ l.take (placeF f l n), f c < n) ∧ ∀ c ∈ l.drop (placeF f l n), ¬ f c < n := by
  induction l with
  | nil => exact ⟨fun c hc => by simp at hc, fun c hc => by simp at hc⟩
  | cons x r ih =>
    obtain ⟨h1, h2⟩ := List.pairwise_cons.1 h
    by_cases hx : f x < n
    · have e : placeF f (x :: r) n = placeF f r n + 1 := by unfold placeF; simp [hx]
      rw [e]
      refine ⟨fun c hc => ?_, fun c hc => (ih h2).2 c (by simpa using hc)⟩
      rcases List.mem_cons.1 (by simpa using hc) with rfl | hc
      · exact hx
      · exact (ih h2).1 c hc
    · have e : placeF f (x :: r) n = 0 := by unfold placeF; simp [hx]
      rw [e]
      refine ⟨fun c hc => by simp at hc, fun c hc => ?_⟩
      rcases List.mem_cons.1 (by simpa using hc) with rfl | hc
      · exact hx
      · have := h1 c hc; omega
end
def cmpD (a b : Int) : Int := if a < b then -1 else if a > b then 1 else 0
theorem cmp_lt {a b : Int} : decide (cmpD a b < 0) = decide (a < b) := by
  unfold cmpD; split
  · simp [*]
  · split <;> simp [*]
theorem cmp_eq {a b : Int} : (cmpD a b == 0) = (a == b) := by
  unfold cmpD; split
  · have : ¬ a = b := by omega
    simp [this]
  · split
    · have : ¬ a = b := by omega
      simp [this]
    · have : a = b := by omega
      simp [this]
theorem cmp1 {a b : Int} (h : a < b) : cmpD a b = -1 := if_pos h
theorem cmp2 {a b : Int} (h : ¬ a < b) (h2 : a > b) : cmpD a b = 1 := by unfold cmpD; rw [if_neg h, if_pos h2]
theorem cmp3 {a b : Int} (h : ¬ a < b) (h2 : ¬ a > b) : cmpD a b = 0 := by unfold cmpD; rw [if_neg h, if_neg h2]
def nod0 : Nod := ⟨0, 0, 0, [], []⟩
theorem nod0_ok : OkN nod0 := ⟨⟨by decide, by decide⟩, ⟨by decide, by decide⟩, ⟨by decide, by decide⟩, by show (0 : Nat) ≤ _; omega, by show (0 : Nat) ≤ _; omega, fun e h => by cases h⟩
def isNo (i : Int) (n : Nod) : Bool := n.ino == i
def findB (f : Fsy) (i : Int) : Bool := f.l.any (isNo i)
def findN (f : Fsy) (i : Int) : Nod := (f.l.find? (isNo i)).getD nod0
theorem findN_ok {f : Fsy} (ok : OkF f) (i : Int) : OkN (findN f i) := by
  unfold findN
  cases h : f.l.find? (isNo i) with
  | none => exact nod0_ok
  | some n => exact ok.2.2 n (List.mem_of_find?_eq_some h)
theorem find_at {i : Int} : ∀ {l : List Nod} {k : Nat} {x : Nod}, AllTo (fun _ n => isNo i n = false) l k → l[k]? = some x → isNo i x = true → l.any (isNo i) = true ∧ l.find? (isNo i) = some x
  | y :: r, 0, x, _, hx, hp => by simp at hx; subst hx; simp [hp]
  | y :: r, k + 1, x, h, hx, hp => by
    have h1 := h 0 y (by omega) rfl
    obtain ⟨h2, h3⟩ := find_at (l := r) (k := k) (fun j e hj he => h (j + 1) e (by omega) (by simpa using he)) (by simpa using hx) hp
    simp [h1, h2, h3]
theorem find_no {i : Int} {l : List Nod} (h : AllQ (fun _ n => isNo i n = false) l) : l.any (isNo i) = false ∧ l.find? (isNo i) = none := by
  have h0 : ∀ x ∈ l, isNo i x = false := fun x hx => by obtain ⟨j, hj⟩ := List.getElem?_of_mem hx; exact h j x hj
  constructor
  · rw [List.any_eq_false]; intro x hx; simp [h0 x hx]
  · rw [List.find?_eq_none]; intro x hx; simp [h0 x hx]
abbrev plN (l : List Nod) (n : Int) : Nat := placeF Nod.ino l n
abbrev thN (l : List Nod) (n : Int) : Bool := thereF Nod.ino l n
abbrev RiseN (l : List Nod) : Prop := RiseF Nod.ino l
theorem find_there {l : List Nod} {i : Int} (hr : RiseN l) {x : Nod} (h : thN l i = true) (hx : l[plN l i]? = some x) : l.any (isNo i) = true ∧ l.find? (isNo i) = some x := by
  refine find_at (k := plN l i) (fun j e hj he => ?_) hx ?_
  · have := (hr.cut i).1 e (List.mem_of_getElem? (i := j) (by rw [List.getElem?_take, if_pos hj]; exact he))
    have hne : ¬ e.ino = i := by omega
    simp [isNo, hne]
  · have h2 : (x.ino == i) = true := (thereF_at rfl hx).symm.trans h
    exact h2
theorem find_away {l : List Nod} {i : Int} (hr : RiseN l) (h : thN l i = false) : l.any (isNo i) = false ∧ l.find? (isNo i) = none := by
  refine find_no fun j e he => ?_
  have hne : ¬ e.ino = i := fun hi => by
    have hc := hr.cut i
    by_cases hj : j < plN l i
    · have := hc.1 e (List.mem_of_getElem? (i := j) (by rw [List.getElem?_take, if_pos hj]; exact he))
      omega
    · obtain ⟨y, hy⟩ := some_of (l := l) (k := plN l i) (by have := lt_of_some he; omega)
      replace h : (y.ino == i) = false := (thereF_at rfl hy).symm.trans h
      have h2 := hr.le hy he (by omega)
      have h3 := hc.2 y (List.mem_of_getElem? (i := 0) (by rw [List.getElem?_drop, Nat.add_zero]; exact hy))
      have : ¬ y.ino = i := by simpa using h
      omega
  simp [isNo, hne]
theorem findB_eq {f : Fsy} {i : Int} (hr : RiseN f.l) : findB f i = thN f.l i := by
  cases h : thN f.l i with
  | false => exact (find_away hr h).1
  | true =>
    obtain ⟨c, hc, _⟩ := thereF_some h
    exact (find_there hr h hc).1
def rowAt (f : Fsy) (i : Nat) (n : Nod) : Prop := nodP n ∧ n.ino < f.next ∧ ∀ d, 0 < i → f.l[i - 1]? = some d → d.ino < n.ino
def rowsP (f : Fsy) : Prop := f.l.length ≤ 256 ∧ 1 ≤ f.next ∧ AllQ (rowAt f) f.l
theorem rowsP_iff {f : Fsy} : rowsP f ↔ f.l.length ≤ 256 ∧ 1 ≤ f.next ∧ (∀ n ∈ f.l, nodP n ∧ n.ino < f.next) ∧ RiseN f.l := by
  constructor
  · rintro ⟨h1, h2, h3⟩
    refine ⟨h1, h2, fun n hn => ?_, ?_⟩
    · obtain ⟨k, hk⟩ := List.getElem?_of_mem hn
      exact ⟨(h3.at hk).1, (h3.at hk).2.1⟩
    · have key : ∀ (i j : Nat) (c d : Nod), i < j → f.l[i]? = some c → f.l[j]? = some d → c.ino < d.ino := by
        intro i j
        induction j with
        | zero => intro c d h; omega
        | succ j ih =>
          intro c d hij hc hd
          obtain ⟨e, he⟩ := some_of (l := f.l) (k := j) (by have := lt_of_some hd; omega)
          have h1 := (h3.at hd).2.2 e (by omega) (by simpa using he)
          rcases Nat.lt_or_ge i j with hij' | hij'
          · have := ih c e hij' hc he; omega
          · obtain rfl : i = j := by omega
            rw [hc] at he
            obtain rfl := Option.some.inj he
            exact h1
      exact List.pairwise_iff_getElem.2 fun i j hi hj hij => key i j _ _ hij (List.getElem?_eq_getElem hi) (List.getElem?_eq_getElem hj)
  · rintro ⟨h1, h2, h3, h4⟩
    refine ⟨h1, h2, fun i n hn => ⟨(h3 n (List.mem_of_getElem? hn)).1, (h3 n (List.mem_of_getElem? hn)).2, fun d h0 hd => ?_⟩⟩
    have h5 := List.pairwise_iff_getElem.1 h4
    have l1 := lt_of_some hd
    have l2 := lt_of_some hn
    have := h5 (i - 1) i l1 l2 (by omega)
    have e1 : f.l[i - 1] = d := Option.some.inj ((List.getElem?_eq_getElem l1).symm.trans hd)
    have e2 : f.l[i] = n := Option.some.inj ((List.getElem?_eq_getElem l2).symm.trans hn)
    rw [e1, e2] at this
    exact this
theorem rows_rise {f : Fsy} (h : rowsP f) : RiseN f.l := (rowsP_iff.1 h).2.2.2
def putN (l : List Nod) (n : Nod) : List Nod := l.take (plN l n.ino) ++ n :: l.drop (plN l n.ino + if thN l n.ino then 1 else 0)
def putF (f : Fsy) (n : Nod) : Fsy := ⟨putN f.l n, if n.ino + 1 > f.next then n.ino + 1 else f.next⟩
def outN (l : List Nod) (i : Int) : List Nod := if thN l i then l.take (plN l i) ++ l.drop (plN l i + 1) else l
def outF (f : Fsy) (i : Int) : Fsy := ⟨outN f.l i, f.next⟩
end Go.Proofs.Ytgcjfhgkkgocpaa
