/- Stores: which are right, what is seen at a stamp: the mathematics. -/
import Derived.Test.YtibcmgmlklehdaaNodW
set_option linter.unusedVariables false
set_option linter.unusedSimpArgs false
namespace Go.Proofs.Ytibcmgmlklehdaa
open Go Go.RowKit Copyhold
section
variable {α : Type}
def cutD (f : α → Int) (st : Int) : List α → Nat
  | [] => 0
  | x :: r => if cutD f st r = 0 then (if f x ≤ st then 1 else 0) else cutD f st r + 1
theorem cut_le (f : α → Int) (st : Int) : ∀ l : List α, cutD f st l ≤ l.length
  | [] => Nat.le_refl _
  | x :: r => by
    have := cut_le f st r
    simp only [cutD, List.length_cons]
    split
    · split <;> omega
    · omega
theorem cut_eq (f : α → Int) (st : Int) : ∀ (l : List α) (k : Nat), k ≤ l.length → (∀ j x, k ≤ j → l[j]? = some x → st < f x) → (k = 0 ∨ ∃ x, l[k - 1]? = some x ∧ f x ≤ st) → cutD f st l = k
  | [], k, hk, _, _ => by simp at hk; subst hk; rfl
  | x :: r, 0, _, ha, _ => by
    have h1 := cut_eq f st r 0 (Nat.zero_le _) (fun j y _ hy => ha (j + 1) y (Nat.zero_le _) (by simpa using hy)) (.inl rfl)
    have h2 := ha 0 x (Nat.zero_le _) rfl
    simp only [cutD, h1, if_true]
    rw [if_neg (by omega)]
  | x :: r, k + 1, hk, ha, he => by
    simp only [List.length_cons] at hk
    have ha' : ∀ j y, k ≤ j → r[j]? = some y → st < f y := fun j y hj hy => ha (j + 1) y (by omega) (by simpa using hy)
    rcases he with he | ⟨y, hy, hle⟩
    · omega
    · cases k with
      | zero =>
        have h1 := cut_eq f st r 0 (Nat.zero_le _) ha' (.inl rfl)
        simp at hy
        subst hy
        simp only [cutD, h1, if_true, if_pos hle]
      | succ k =>
        have h1 := cut_eq f st r (k + 1) (by omega) ha' (.inr ⟨y, by simpa using hy, hle⟩)
        simp only [cutD, h1]
        rfl
theorem seen0 (f : α → Int) (st : Int) (l : List α) : l.length ≤ l.length ∧ ∀ j y, l.length ≤ j → l[j]? = some y → st < f y := ⟨Nat.le_refl _, fun j y hj hy => by have := lt_of_some hy; omega⟩
theorem seenS {f : α → Int} {st : Int} {l : List α} {k : Nat} {x : α} (hx : l[k - 1]? = some x) (hk : k ≤ l.length) (h : ∀ j y, k ≤ j → l[j]? = some y → st < f y) (hg : st < f x) : k - 1 ≤ l.length ∧ ∀ j y, k - 1 ≤ j → l[j]? = some y → st < f y :=
  ⟨by omega, fun j y hj hy => by
    by_cases e : j = k - 1
    · subst e
      rw [hx] at hy
      obtain rfl := Option.some.inj hy
      exact hg
    · exact h j y (by omega) hy⟩
def atD (f : α → Int) (st : Int) (l : List α) : Option α := if cutD f st l = 0 then none else l[cutD f st l - 1]?
def stepP (f : α → Int) (most : Int) (l : List α) (i : Nat) (x : α) : Prop := 1 ≤ f x ∧ f x ≤ most ∧ ∀ d, 0 < i → l[i - 1]? = some d → f d < f x
def riseP (f : α → Int) (most : Int) (l : List α) : Prop := 1 ≤ l.length ∧ AllQ (stepP f most l) l
def LastI (f : α → Int) (l : List α) (k : Nat) (last : Int) : Prop := (k = 0 ∧ last = 0) ∨ ∃ d, 0 < k ∧ l[k - 1]? = some d ∧ last = f d ∧ 1 ≤ last
theorem LastI.pos {f : α → Int} {l : List α} {k : Nat} {last : Int} (h : LastI f l k last) : 0 ≤ last := by
  rcases h with ⟨_, h⟩ | ⟨d, _, _, _, h⟩ <;> omega
theorem LastI.step {f : α → Int} {l : List α} {k : Nat} {last : Int} {x : α} (h : LastI f l k last) (hx : l[k]? = some x) (hgt : ¬ f x ≤ last) : LastI f l (k + 1) (f x) :=
  .inr ⟨x, by omega, by simpa using hx, rfl, by have := h.pos; omega⟩
theorem LastI.lt {f : α → Int} {l : List α} {k : Nat} {last : Int} (h : LastI f l k last) {v : Int} (hgt : ¬ v ≤ last) : 1 ≤ v ∧ ∀ d, 0 < k → l[k - 1]? = some d → f d < v := by
  refine ⟨by have := h.pos; omega, fun d h0 hd => ?_⟩
  rcases h with ⟨h, _⟩ | ⟨e, _, he, h1, _⟩
  · omega
  · rw [hd] at he
    obtain rfl := Option.some.inj he
    omega
theorem LastI.not {f : α → Int} {l : List α} {k : Nat} {last : Int} (h : LastI f l k last) {v : Int} (hle : v ≤ last) : ¬ (1 ≤ v ∧ ∀ d, 0 < k → l[k - 1]? = some d → f d < v) := by
  rintro ⟨h1, h2⟩
  rcases h with ⟨_, h⟩ | ⟨e, h0, he, h3, _⟩
  · omega
  · have := h2 e h0 he; omega
end
def nod0 : Nod := ⟨0, 0, 0, [], []⟩
def verP (ino : Int) (v : Ver) : Prop := (v.gone = true → v.n = nod0) ∧ (v.gone = false → nodP v.n ∧ v.n.ino = ino)
def chainP (most : Int) (c : Chn) : Prop := 1 ≤ c.ino ∧ riseP Ver.stamp most c.l ∧ AllQ (fun _ v => verP c.ino v) c.l
def chnAt (s : Sto) (i : Nat) (c : Chn) : Prop := chainP s.stamp c ∧ ∀ d, 0 < i → s.l[i - 1]? = some d → d.ino < c.ino
def storeP (s : Sto) : Prop := 1 ≤ s.stamp ∧ riseP Cnt.stamp s.stamp s.nexts ∧ AllQ (fun _ (c : Cnt) => 1 ≤ c.next) s.nexts ∧ AllQ (chnAt s) s.l
def viewC (st : Int) (c : Chn) : Option Nod := match atD Ver.stamp st c.l with
  | some v => if v.gone then none else some v.n
  | none => none
def nextD (s : Sto) (st : Int) : Int := match atD Cnt.stamp st s.nexts with
  | some c => c.next
  | none => 1
def viewD (s : Sto) (st : Int) : Fsy := ⟨s.l.filterMap (viewC st), nextD s st⟩
theorem viewC_of {st : Int} {c : Chn} {v : Ver} (h0 : ¬ cutD Ver.stamp st c.l = 0) (hv : c.l[cutD Ver.stamp st c.l - 1]? = some v) : viewC st c = if v.gone then none else some v.n := by
  unfold viewC atD; rw [if_neg h0, hv]
theorem viewC_zero {st : Int} {c : Chn} (h0 : cutD Ver.stamp st c.l = 0) : viewC st c = none := by
  unfold viewC atD; rw [if_pos h0]
theorem nextD_of {s : Sto} {st : Int} {c : Cnt} (h0 : ¬ cutD Cnt.stamp st s.nexts = 0) (hc : s.nexts[cutD Cnt.stamp st s.nexts - 1]? = some c) : nextD s st = c.next := by
  unfold nextD atD; rw [if_neg h0, hc]
theorem nextD_zero {s : Sto} {st : Int} (h0 : cutD Cnt.stamp st s.nexts = 0) : nextD s st = 1 := by
  unfold nextD atD; rw [if_pos h0]
def seenL (s : Sto) (st : Int) (k : Nat) : List Nod := (s.l.take k).filterMap (viewC st)
theorem seenL_yes {s : Sto} {st : Int} {k : Nat} {c : Chn} {n : Nod} (hc : s.l[k]? = some c) (h : viewC st c = some n) : seenL s st (k + 1) = seenL s st k ++ [n] := by
  unfold seenL; rw [take_step hc, List.filterMap_append]; simp [h]
theorem seenL_no {s : Sto} {st : Int} {k : Nat} {c : Chn} (hc : s.l[k]? = some c) (h : viewC st c = none) : seenL s st (k + 1) = seenL s st k := by
  unfold seenL; rw [take_step hc, List.filterMap_append]; simp [h]
theorem seenL_le (s : Sto) (st : Int) (k : Nat) : (seenL s st k).length ≤ k := by
  have := List.length_filterMap_le (viewC st) (s.l.take k)
  rw [List.length_take] at this
  unfold seenL; omega
theorem seenL_all {s : Sto} {st : Int} {k : Nat} (h : s.l.length ≤ k) : seenL s st k = s.l.filterMap (viewC st) := by unfold seenL; rw [take_all h]
def laterB (st : Int) (c : Chn) : Bool := c.l.any fun v => decide (v.stamp > st)
def laterL (s : Sto) (st : Int) (k : Nat) : List Int := ((s.l.take k).filter (laterB st)).map Chn.ino
def moreB (s : Sto) (st : Int) : Bool := s.nexts.any fun c => decide (c.stamp > st)
def sinceD (s : Sto) (st : Int) : List Int := if 1 ≤ (laterL s st s.l.length).length ∨ moreB s st = true then 0 :: laterL s st s.l.length else []
theorem laterL_yes {s : Sto} {st : Int} {k : Nat} {c : Chn} (hc : s.l[k]? = some c) (h : laterB st c = true) : laterL s st (k + 1) = laterL s st k ++ [c.ino] := by
  unfold laterL; rw [take_step hc, List.filter_append, List.map_append]; simp [h]
theorem laterL_no {s : Sto} {st : Int} {k : Nat} {c : Chn} (hc : s.l[k]? = some c) (h : laterB st c = false) : laterL s st (k + 1) = laterL s st k := by
  unfold laterL; rw [take_step hc, List.filter_append, List.map_append]; simp [h]
theorem laterL_le (s : Sto) (st : Int) (k : Nat) : (laterL s st k).length ≤ k := by
  have := List.length_filter_le (laterB st) (s.l.take k)
  rw [List.length_take] at this
  unfold laterL; rw [List.length_map]; omega
theorem laterL_all {s : Sto} {st : Int} {k : Nat} (h : s.l.length ≤ k) : laterL s st k = laterL s st s.l.length := by unfold laterL; rw [take_all h, take_all (Nat.le_refl _)]
section
variable {α : Type}
def idxF (p : α → Bool) : List α → Int
  | [] => -1
  | x :: r => if p x then 0 else if idxF p r < 0 then -1 else idxF p r + 1
theorem idxF_any (p : α → Bool) : ∀ l : List α, decide (idxF p l ≥ 0) = l.any p
  | [] => rfl
  | x :: r => by
    have := idxF_any p r
    simp only [idxF, List.any_cons, ← this]
    by_cases hp : p x = true
    · simp [hp]
    · simp only [Bool.not_eq_true] at hp
      simp only [hp, Bool.false_or, Bool.false_eq_true, if_false]
      split <;> simp <;> omega
theorem idxF_none (p : α → Bool) : ∀ l : List α, AllQ (fun _ x => p x = false) l → idxF p l = -1
  | [], _ => rfl
  | x :: r, h => by
    have h1 := h 0 x rfl
    have h2 := idxF_none p r fun i e he => h (i + 1) e (by simpa using he)
    simp [idxF, h1, h2]
theorem idxF_at (p : α → Bool) : ∀ (l : List α) (k : Nat) (x : α), AllTo (fun _ x => p x = false) l k → l[k]? = some x → p x = true → idxF p l = k
  | y :: r, 0, x, _, hx, hp => by
    simp at hx; subst hx; simp [idxF, hp]
  | y :: r, k + 1, x, h, hx, hp => by
    have h1 := h 0 y (by omega) rfl
    have h2 := idxF_at p r k x (fun i e hi he => h (i + 1) e (by omega) (by simpa using he)) (by simpa using hx) hp
    simp [idxF, h1, h2]
    omega
end
theorem nod0_ok : OkN nod0 := ⟨⟨by decide, by decide⟩, ⟨by decide, by decide⟩, ⟨by decide, by decide⟩, by show (0 : Nat) ≤ _; omega, by show (0 : Nat) ≤ _; omega, fun e h => by cases h⟩
end Go.Proofs.Ytibcmgmlklehdaa
