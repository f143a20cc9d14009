/- Rising rows: a row with a number; sorted and without doubles. What a call hangs on, and what it turns. slices.Sort, slices.Compact of numbers, at any length. -/
import Derived.Lib.SlicesCompact
import Derived.Test.YtkhnialfkndiiaaGreatMrgY
import Derived.Test.YtkhnialfkndiiaaGreatMrgZ
import Derived.Test.YtkhnialfkndiiaaGreatShelf
import Derived.Sort.OwnSortedInts
set_option linter.unusedVariables false
set_option linter.unusedSimpArgs false
namespace Go.Proofs.YtkhnialfkndiiaaGreat
open Go Go.RowKit Copyhold
def Asc (l : List Int) : Prop := l.Pairwise (· < ·)
theorem asc_ext : ∀ {a b : List Int}, Asc a → Asc b → (∀ x, x ∈ a ↔ x ∈ b) → a = b
  | [], [], _, _, _ => rfl
  | [], y :: r, _, _, h => absurd ((h y).2 (by simp)) (by simp)
  | x :: r, [], _, _, h => absurd ((h x).1 (by simp)) (by simp)
  | x :: r, y :: q, ha, hb, h => by
    obtain ⟨a1, a2⟩ := List.pairwise_cons.1 ha
    obtain ⟨b1, b2⟩ := List.pairwise_cons.1 hb
    have hx := (h x).1 (by simp)
    have hy := (h y).2 (by simp)
    have e : x = y := by
      rcases List.mem_cons.1 hx with e | e
      · exact e
      · rcases List.mem_cons.1 hy with e2 | e2
        · exact e2.symm
        · have := b1 x e
          have := a1 y e2
          omega
    subst e
    congr 1
    refine asc_ext a2 b2 fun z => ?_
    have hz := h z
    constructor
    · intro hm
      rcases List.mem_cons.1 (hz.1 (List.mem_cons_of_mem _ hm)) with e | e
      · have := a1 z hm; omega
      · exact e
    · intro hm
      rcases List.mem_cons.1 (hz.2 (List.mem_cons_of_mem _ hm)) with e | e
      · have := b1 z hm; omega
      · exact e
theorem asc_parts {l : List Int} (h : Asc l) (n : Int) : (∀ x ∈ l.take (pN l n), x < n) ∧ ∀ x ∈ l.drop (pN l n), n ≤ x := by
  constructor
  · intro x hx
    obtain ⟨i, hi, rfl⟩ := List.mem_iff_getElem.1 hx
    rw [List.length_take] at hi
    rw [List.getElem_take]
    exact (pN_iff (n := n) (l := l) (k := i) (by omega) (List.getElem?_eq_getElem (by omega))).2 (by omega)
  · intro x hx
    obtain ⟨i, hi, rfl⟩ := List.mem_iff_getElem.1 hx
    rw [List.length_drop] at hi
    rw [List.getElem_drop]
    have h0 : ¬ l[pN l n]'(by omega) < n := fun hc => by
      have := (pN_iff (n := n) (l := l) (k := pN l n) (Nat.le_refl _) (List.getElem?_eq_getElem (by omega))).1 hc
      omega
    by_cases hi0 : i = 0
    · subst hi0
      simp only [Nat.add_zero]
      omega
    · have := List.pairwise_iff_getElem.1 h (pN l n) (pN l n + i) (by omega) (by omega) (by omega)
      omega
theorem with_eq (l : List Int) (n : Int) : withI l n = l.take (pN l n) ++ n :: (l.drop (pN l n)).filter fun x => x != n := by
  unfold withI wiK
  rw [List.take_of_length_le (l := l.drop (pN l n)) (i := l.length - pN l n) (by rw [List.length_drop]; exact Nat.le_refl _)]
theorem with_mem {l : List Int} {n x : Int} : x ∈ withI l n ↔ x = n ∨ x ∈ l := by
  rw [with_eq]
  have e : x ∈ l ↔ x ∈ l.take (pN l n) ∨ x ∈ l.drop (pN l n) := by rw [← List.mem_append, List.take_append_drop]
  rw [e, List.mem_append, List.mem_cons, List.mem_filter]
  constructor
  · rintro (h | h | h)
    · exact .inr (.inl h)
    · exact .inl h
    · exact .inr (.inr h.1)
  · rintro (h | h | h)
    · exact .inr (.inl h)
    · exact .inl h
    · by_cases hx : x = n
      · exact .inr (.inl hx)
      · exact .inr (.inr ⟨h, by simpa using hx⟩)
theorem with_asc {l : List Int} (h : Asc l) (n : Int) : Asc (withI l n) := by
  obtain ⟨h1, h2⟩ := asc_parts h n
  rw [with_eq]
  have hs : Asc (l.take (pN l n)) := List.Pairwise.sublist (List.take_sublist _ _) h
  have hd : Asc (l.drop (pN l n)) := List.Pairwise.sublist (List.drop_sublist _ _) h
  refine List.pairwise_append.2 ⟨hs, List.pairwise_cons.2 ⟨fun y hy => ?_, List.Pairwise.filter _ hd⟩, fun a ha b hb => ?_⟩
  · obtain ⟨y1, y2⟩ := List.mem_filter.1 hy
    have := h2 y y1
    have : y ≠ n := by simpa using y2
    omega
  · have := h1 a ha
    rcases List.mem_cons.1 hb with rfl | hb
    · exact this
    · have := h2 b (List.mem_filter.1 hb).1
      omega
def sortU (l : List Int) : List Int := Lib.compact (l.mergeSort fun x y => decide (x ≤ y))
theorem ge_at (l : List Int) {j : Nat} (h : j < l.length) : l.toArray[j]! = l[j] := by simp [h]
theorem compact_mem {l : List Int} {x : Int} : x ∈ Lib.compact l ↔ x ∈ l := by
  unfold Lib.compact Lib.compactUpTo
  rw [List.mem_map]
  constructor
  · rintro ⟨j, hj, rfl⟩
    have := List.mem_range.1 (List.mem_filter.1 hj).1
    rw [ge_at l this]
    exact List.getElem_mem _
  · intro hx
    obtain ⟨i, hi, he⟩ := List.mem_iff_getElem.1 hx
    have key : ∀ (n i : Nat) (hi : i < l.length), i ≤ n → l[i] = x → ∃ j, j < l.length ∧ Lib.keeps l.toArray j = true ∧ l.toArray[j]! = x := by
      intro n
      induction n with
      | zero =>
        intro i hi h0 he
        obtain rfl : i = 0 := by omega
        exact ⟨0, hi, Lib.keeps_lt_one _ 0 (by omega), by rw [ge_at l hi]; exact he⟩
      | succ n ih =>
        intro i hi h0 he
        cases hk : Lib.keeps l.toArray i with
        | true => exact ⟨i, hi, hk, by rw [ge_at l hi]; exact he⟩
        | false =>
          have hi0 : i ≠ 0 := fun e => by subst e; rw [Lib.keeps_lt_one _ 0 (by omega)] at hk; cases hk
          have h2 : l[i]'hi = l[i - 1]'(by omega) := by
            unfold Lib.keeps at hk
            have := of_decide_eq_false hk
            rw [not_or, Decidable.not_not] at this
            rw [← ge_at l hi, ← ge_at l (show i - 1 < l.length by omega)]
            exact this.2
          exact ih (i - 1) (by omega) (by omega) (by rw [← h2]; exact he)
    obtain ⟨j, h1, h2, h3⟩ := key i i hi (Nat.le_refl _) he
    exact ⟨j, List.mem_filter.2 ⟨List.mem_range.2 h1, h2⟩, h3⟩
theorem compact_asc {l : List Int} (h : l.Pairwise (· ≤ ·)) : Asc (Lib.compact l) := by
  unfold Lib.compact Lib.compactUpTo Asc
  rw [List.pairwise_map, List.pairwise_filter]
  have hp := List.pairwise_lt_range (n := l.length)
  refine List.Pairwise.imp_of_mem (fun {a b} ha hb hab h1 h2 => ?_) hp
  have ha := List.mem_range.1 ha
  have hb := List.mem_range.1 hb
  rw [ge_at l ha, ge_at l hb]
  unfold Lib.keeps at h2
  have h3 := of_decide_eq_true h2
  have h4 : l[b]'hb ≠ l[b - 1]'(by omega) := by
    rcases h3 with h3 | h3
    · omega
    · rwa [ge_at l hb, ge_at l (show b - 1 < l.length by omega)] at h3
  have h5 : l[b - 1]'(by omega) ≤ l[b]'hb := List.pairwise_iff_getElem.1 h (b - 1) b (by omega) hb (by omega)
  by_cases e : a = b - 1
  · subst e; omega
  · have h6 : l[a]'ha ≤ l[b - 1]'(by omega) := List.pairwise_iff_getElem.1 h a (b - 1) ha (by omega) (by omega)
    omega
theorem sortU_mem {l : List Int} {x : Int} : x ∈ sortU l ↔ x ∈ l := by
  unfold sortU
  rw [compact_mem]
  exact (List.mergeSort_perm _ _).mem_iff
theorem sortU_asc (l : List Int) : Asc (sortU l) := by
  unfold sortU
  refine compact_asc ?_
  have := List.pairwise_mergeSort (le := fun (x y : Int) => decide (x ≤ y)) (fun a b c h1 h2 => by simp at *; omega) (fun a b => by simp; omega) l
  exact this.imp fun h => by simpa using h
theorem compact_len (l : List Int) : (Lib.compact l).length ≤ l.length := by
  unfold Lib.compact Lib.compactUpTo
  rw [List.length_map]
  have := List.length_filter_le (Lib.keeps l.toArray) (List.range l.length)
  rw [List.length_range] at this
  exact this
theorem sortU_len (l : List Int) : (sortU l).length ≤ l.length := by
  unfold sortU
  have := compact_len (l.mergeSort fun x y => decide (x ≤ y))
  rwa [List.length_mergeSort] at this
def looksU (f : Fsy) (c : Cal) : List Int := if c.kind = 15 then [0] else sortU (looksL f c)
theorem lk2_mem (l : List Ent) (x : Int) : ∀ (ss : List Txt) (L : List Int), x ∈ lk2 l ss L ↔ x ∈ L ∨ ∃ s ∈ ss, isB l s = true ∧ getI l s = x
  | [], L => by simp [lk2]
  | s :: r, L => by
    show x ∈ lk2 l r (if isB l s = true then L ++ [getI l s] else L) ↔ _
    rw [lk2_mem l x r]
    split
    · rename_i h
      rw [List.mem_append, List.mem_singleton]
      constructor
      · rintro ((h1 | h1) | ⟨t, h1, h2⟩)
        · exact .inl h1
        · exact .inr ⟨s, by simp, h, h1.symm⟩
        · exact .inr ⟨t, by simp [h1], h2⟩
      · rintro (h1 | ⟨t, h1, h2, h3⟩)
        · exact .inl (.inl h1)
        · rcases List.mem_cons.1 h1 with rfl | h1
          · exact .inl (.inr h3.symm)
          · exact .inr ⟨t, h1, h2, h3⟩
    · rename_i h
      constructor
      · rintro (h1 | ⟨t, h1, h2⟩)
        · exact .inl h1
        · exact .inr ⟨t, by simp [h1], h2⟩
      · rintro (h1 | ⟨t, h1, h2, h3⟩)
        · exact .inl h1
        · rcases List.mem_cons.1 h1 with rfl | h1
          · exact absurd h2 h
          · exact .inr ⟨t, h1, h2, h3⟩
theorem lk1_mem {f : Fsy} {c : Cal} {L : List Int} {i x : Int} : x ∈ lk1 f c L i ↔ x ∈ L ∨ dirE f i = 0 ∧ ∃ s, (s = c.name ∨ s = c.name2) ∧ isB (dirN f i).l s = true ∧ getI (dirN f i).l s = x := by
  unfold lk1
  split
  · rename_i h
    rw [lk2_mem]
    simp [h]
  · rename_i h
    simp [h]
theorem looksL_mem {f : Fsy} {c : Cal} {x : Int} : x ∈ looksL f c ↔ (x = c.ino ∨ x = c.to) ∨ ∃ i, (i = c.ino ∨ i = c.to) ∧ dirE f i = 0 ∧ ∃ s, (s = c.name ∨ s = c.name2) ∧ isB (dirN f i).l s = true ∧ getI (dirN f i).l s = x := by
  show x ∈ lk1 f c (lk1 f c [c.ino, c.to] c.ino) c.to ↔ _
  rw [lk1_mem, lk1_mem]
  constructor
  · rintro ((h | h) | h)
    · exact .inl (by simpa using h)
    · exact .inr ⟨c.ino, .inl rfl, h⟩
    · exact .inr ⟨c.to, .inr rfl, h⟩
  · rintro (h | ⟨i, rfl | rfl, h⟩)
    · exact .inl (.inl (by simpa using h))
    · exact .inl (.inr h)
    · exact .inr h
end Go.Proofs.YtkhnialfkndiiaaGreat

set_option linter.unusedVariables false
set_option linter.unusedSimpArgs false
namespace Go.Proofs.YtkhnialfkndiiaaGreat
open Go Go.RowKit Copyhold
open Copyhold.Name (Srt insE delE getE isAt)
def updF : List (Int × Option Nod) → Option Nod → Int → Option Nod
  | [], x, _ => x
  | (i, v) :: r, x, j => if j = i then v else updF r x j
def Upd (f k : Fsy) (u : List (Int × Option Nod)) : Prop := ∀ j, atF k j = updF u (atF f j) j
theorem Upd.self (f : Fsy) : Upd f f [] := fun _ => rfl
theorem Upd.out {f k : Fsy} {u : List (Int × Option Nod)} (h : Upd f k u) {j : Int} (hj : ∀ p ∈ u, ¬ p.1 = j) : atF k j = atF f j := by
  rw [h j]
  clear h
  induction u with
  | nil => rfl
  | cons p r ih =>
    obtain ⟨i, v⟩ := p
    have h1 : ¬ i = j := hj (i, v) (by simp)
    show (if j = i then v else updF r (atF f j) j) = _
    rw [if_neg (fun e => h1 e.symm)]
    exact ih fun q hq => hj q (by simp [hq])
structure Agr (f g : Fsy) (c : Cal) (u : List (Int × Option Nod)) : Prop where
  looks : ∀ p ∈ u, p.1 ∈ looksL f c
  few : u.length ≤ 2
  updf : Upd f (doF f c).1 u
  updg : Upd g (doF g c).1 u
  same : (doF f c).2 = (doF g c).2
  nextf : (doF f c).1.next = f.next
  nextg : (doF g c).1.next = g.next
  lenf : (doF f c).1.l.length ≤ f.l.length
theorem agr_still {f g : Fsy} {c : Cal} {r : Rep} (h1 : doF f c = (f, r)) (h2 : doF g c = (g, r)) : ∃ u, Agr f g c u :=
  ⟨[], fun p hp => (by cases hp), Nat.zero_le _, by rw [h1]; exact Upd.self f, by rw [h2]; exact Upd.self g, by rw [h1, h2], by rw [h1], by rw [h2], by rw [h1]; exact Nat.le_refl _⟩
theorem ino_in (f : Fsy) (c : Cal) : c.ino ∈ looksL f c := looksL_mem.2 (.inl (.inl rfl))
theorem to_in (f : Fsy) (c : Cal) : c.to ∈ looksL f c := looksL_mem.2 (.inl (.inr rfl))
theorem B_eq {f g : Fsy} {i : Int} (h : atF f i = atF g i) : findB f i = findB g i ∧ findN f i = findN g i := by rw [at_B, at_B, at_N, at_N, h]; exact ⟨rfl, rfl⟩
theorem dir_eq {f g : Fsy} {i : Int} (h : atF f i = atF g i) : dirE f i = dirE g i ∧ dirN f i = dirN g i := by
  obtain ⟨h1, h2⟩ := B_eq h
  have e : dirE f i = dirE g i := by unfold dirE; rw [h1, h2]
  exact ⟨e, by unfold dirN; rw [e, h2]⟩
theorem of_eq {f g : Fsy} {i k : Int} (h : atF f i = atF g i) : ofE f i k = ofE g i k := by
  obtain ⟨h1, h2⟩ := B_eq h
  unfold ofE; rw [h1, h2]
theorem no_zero {f : Fsy} (hp : rowsP f) : atF f 0 = none := by
  cases h : atF f 0 with
  | none => rfl
  | some n => have := rows_at hp h; have := this.1.1; omega
theorem kid_in {f : Fsy} {c : Cal} {i j : Int} {s : Txt} (hi : i = c.ino ∨ i = c.to) (hs : s = c.name ∨ s = c.name2) (h0 : dirE f i = 0) (hg : getE (lI (dirN f i).l) s = some j) : j ∈ looksL f c :=
  looksL_mem.2 (.inr ⟨i, hi, h0, s, hs, by rw [isB_get, hg]; rfl, by rw [getI_get, hg]; rfl⟩)
theorem look_agree {f g : Fsy} {c : Cal} (hp : rowsP f) (hpg : rowsP g) (h : ∀ i ∈ looksL f c, atF f i = atF g i) : lookE f c.ino c.name = lookE g c.ino c.name ∧ lookN f c.ino c.name = lookN g c.ino c.name := by
  have hi := h _ (ino_in f c)
  obtain ⟨d1, d2⟩ := dir_eq hi
  have hI : lookI f c.ino c.name = lookI g c.ino c.name := by unfold lookI; rw [d2]
  have hat : atF f (lookI f c.ino c.name) = atF g (lookI f c.ino c.name) := by
    cases hg : getE (lI (dirN f c.ino).l) c.name with
    | none =>
      have : lookI f c.ino c.name = 0 := by unfold lookI; rw [getI_get, hg]; rfl
      rw [this, no_zero hp, no_zero hpg]
    | some j =>
      have e : lookI f c.ino c.name = j := by unfold lookI; rw [getI_get, hg]; rfl
      by_cases h0 : dirE f c.ino = 0
      · rw [e]; exact h _ (kid_in (.inl rfl) (.inl rfl) h0 hg)
      · unfold dirN at hg
        rw [if_neg h0] at hg
        cases hg
  obtain ⟨b1, b2⟩ := B_eq hat
  have hE : lookE f c.ino c.name = lookE g c.ino c.name := by
    unfold lookE; rw [d1, b1, hI]
  exact ⟨hE, by unfold lookN; rw [hE, b2, hI]⟩
theorem put_upd {f : Fsy} {i : Int} {n m : Nod} (hp : rowsP f) (hn : atF f i = some n) (hm : m.ino = i) : Upd f (putF f m) [(i, some m)] ∧ (putF f m).next = f.next ∧ (putF f m).l.length = f.l.length := by
  have hr := rows_rise hp
  obtain ⟨n1, n2, n3⟩ := rows_at hp hn
  refine ⟨fun j => ?_, put_next (by omega), put_len hr (by rw [hm]; exact (at_BN hn).1)⟩
  rw [at_put hr, hm]; rfl
theorem give_upd {f : Fsy} {dir : Int} {s : Txt} {i : Int} (okf : OkF f) (hp : rowsP f) (hs : s.length ≤ 1000000) (he : giveErr f dir s i = 0) : ∃ d n, atF f dir = some d ∧ atF f i = some n ∧
    Upd f (giveF f dir s i) [(i, some (giveN n)), (dir, some (withL d (entL d.l s i)))] ∧ (giveF f dir s i).next = f.next ∧ (giveF f dir s i).l.length = f.l.length := by
  obtain ⟨d, n, G⟩ := gives_of he
  obtain ⟨n1, n2, n3⟩ := rows_at hp G.node
  have okn := okf.2.2 n (at_mem G.node)
  have hi1 : 1 ≤ i := by have := n1.1; omega
  have hi2 : I64 i := n3 ▸ okn.1
  obtain ⟨e1, e2, e3, e4, e5⟩ := enter_all okf hp G.dir G.kind G.check hs hi1 hi2 G.away G.fewd
  have hne : ¬ i = dir := fun e => by
    have h := G.node
    rw [e, G.dir] at h
    obtain rfl := Option.some.inj h
    exact G.file G.kind
  have hni : atF (enterF f dir s i) i = some n := by rw [e5, if_neg hne]; exact G.node
  have hg : giveF f dir s i = putF (enterF f dir s i) (giveN n) := by
    unfold giveF
    rw [if_pos he, (at_BN G.node).2]
    rfl
  obtain ⟨q1, q2, q3⟩ := put_upd (m := giveN n) e2 hni n3
  rw [hg]
  refine ⟨d, n, G.dir, G.node, fun j => ?_, q2.trans e4, q3.trans e3⟩
  rw [q1 j]
  show (if j = i then _ else atF (enterF f dir s i) j) = if j = i then _ else (if j = dir then _ else atF f j)
  rw [e5]
theorem take_upd {f : Fsy} {dir : Int} {s : Txt} (okf : OkF f) (hp : rowsP f) (he : takeErr f dir s = 0) : ∃ d j n, atF f dir = some d ∧ d.kind = 2 ∧ getE (lI d.l) s = some j ∧ atF f j = some n ∧ lookN f dir s = n ∧
    Upd f (takeF f dir s) [(j, if n.links - 1 < 1 then none else some (awayN n)), (dir, some (withL d (delL d.l s)))] ∧ (takeF f dir s).next = f.next ∧ (takeF f dir s).l.length ≤ f.l.length := by
  have h := he
  unfold takeErr at h
  rw [first2] at h
  split at h
  · rename_i h1
    obtain ⟨d, j, n, a1, a2, a3, a4, a5⟩ := (look_iff hp).1 h1
    have hl := (look_at a1 a2 a3 a4 a5).2
    have hnj := at_ino a5
    obtain ⟨w1, w2, w3, w4, w5⟩ := away_all (s := s) okf hp a1 a2 (n := n) (.inl (by rw [hnj]; exact a5))
    have ht : takeF f dir s = awayF f dir s n := by unfold takeF; rw [if_pos he, hl]
    rw [ht]
    exact ⟨d, j, n, a1, a2, a4, a5, hl, fun x => by rw [w5, hnj]; rfl, w4, w3⟩
  · exact absurd h (by assumption)
def wholeC (c : Cal) : Prop := c.kind = 6 ∨ c.kind = 7 ∨ c.kind = 8 ∨ c.kind = 12 ∨ c.kind = 15
theorem agr_text {f g : Fsy} {c : Cal} {m : Nod} {r : Rep} (hp : rowsP f) (hpg : rowsP g) (h : ∀ i ∈ looksL f c, atF f i = atF g i) (h0 : ofE f c.ino 1 = 0) (hm : m.ino = (findN f c.ino).ino) (h1 : doF f c = (putF f m, r)) (h2 : doF g c = (putF g m, r)) : ∃ u, Agr f g c u := by
  obtain ⟨hn, hk⟩ := of_at h0
  have hi := at_ino hn
  obtain ⟨a1, a2, a3⟩ := put_upd (m := m) hp hn (hm.trans hi)
  obtain ⟨b1, b2, b3⟩ := put_upd (m := m) hpg ((h _ (ino_in f c)).symm.trans hn) (hm.trans hi)
  exact ⟨[(c.ino, some m)], fun p hp => by obtain rfl := List.mem_singleton.1 hp; exact ino_in f c, (by show 1 ≤ 2; omega), by rw [h1]; exact a1, by rw [h2]; exact b1, by rw [h1, h2], by rw [h1]; exact a2, by rw [h2]; exact b2, by rw [h1]; exact Nat.le_of_eq a3⟩
theorem agr_take {f g : Fsy} {c : Cal} {dir : Bool} {odd : Int} (okf : OkF f) (okg : OkF g) (hp : rowsP f) (hpg : rowsP g) (h : ∀ i ∈ looksL f c, atF f i = atF g i) (ho : ¬ odd = 0) (hd : deedF f c = takeO f c dir odd) (hdg : deedF g c = takeO g c dir odd) : ∃ u, Agr f g c u := by
  obtain ⟨l1, l2⟩ := look_agree hp hpg h
  by_cases h0 : lookE f c.ino c.name = 0
  · have h0g : lookE g c.ino c.name = 0 := l1 ▸ h0
    cases hk : ((lookN f c.ino c.name).kind == 2) != dir with
    | true => exact agr_still (tk_2 hd h0 hk ho) (tk_2 hdg h0g (l2 ▸ hk) ho)
    | false =>
      have e1 := tk_3 hd h0 hk
      have e2 := tk_3 hdg h0g (l2 ▸ hk)
      have et : takeErr g c.ino c.name = takeErr f c.ino c.name := by unfold takeErr; rw [l1, l2]
      by_cases he : takeErr f c.ino c.name = 0
      · obtain ⟨d, j, n, a1, a2, a3, a4, a5, a6, a7, a8⟩ := take_upd okf hp he
        obtain ⟨d', j', n', b1, b2, b3, b4, b5, b6, b7, b8⟩ := take_upd okg hpg (et.trans he)
        have hdd : d' = d := by
          have := h _ (ino_in f c)
          rw [a1, b1] at this
          exact (Option.some.inj this).symm
        subst hdd
        have hj : j' = j := by rw [a3] at b3; exact (Option.some.inj b3).symm
        subst hj
        have hnn : n' = n := by rw [← a5, ← b5, l2]
        subst hnn
        obtain ⟨g1, g2⟩ := dir_of a1 a2
        refine ⟨[(j', if n'.links - 1 < 1 then none else some (awayN n')), (c.ino, some (withL d' (delL d'.l c.name)))], fun p hp => ?_, by simp, by rw [e1]; exact a6, by rw [e2]; exact b6, by rw [e1, e2, et], by rw [e1]; exact a7, by rw [e2]; exact b7, by rw [e1]; exact a8⟩
        rcases List.mem_cons.1 hp with rfl | hp
        · exact kid_in (.inl rfl) (.inl rfl) g1 (by rw [g2]; exact a3)
        · obtain rfl := List.mem_singleton.1 hp; exact ino_in f c
      · rw [show takeF f c.ino c.name = f from if_neg he] at e1
        rw [show takeF g c.ino c.name = g from if_neg (by rw [et]; exact he), et] at e2
        exact agr_still e1 e2
  · have h1 := tk_1 hd h0
    have h2 := tk_1 hdg (l1 ▸ h0)
    rw [← l1] at h2
    exact agr_still h1 h2
theorem do_agree {f g : Fsy} {c : Cal} (okf : OkF f) (okg : OkF g) (hp : rowsP f) (hpg : rowsP g) (okc : OkCal c) (hw : ¬ wholeC c) (h : ∀ i ∈ looksL f c, atF f i = atF g i) : ∃ u, Agr f g c u := by
  have hi := h _ (ino_in f c)
  obtain ⟨b1, b2⟩ := B_eq hi
  obtain ⟨d1, d2⟩ := dir_eq hi
  unfold wholeC at hw
  rcases (show c.kind = 1 ∨ c.kind = 2 ∨ c.kind = 3 ∨ c.kind = 4 ∨ c.kind = 5 ∨ c.kind = 9 ∨ c.kind = 10 ∨ c.kind = 11 ∨ c.kind = 13 ∨ c.kind = 14 ∨ (c.kind < 1 ∨ c.kind > 15) from by omega) with hk | hk | hk | hk | hk | hk | hk | hk | hk | hk | hk
  · obtain ⟨l1, l2⟩ := look_agree hp hpg h
    have e2 := look_do (f := g) hk
    rw [← l1, ← l2] at e2
    exact agr_still (look_do hk) e2
  · cases hb : findB f c.ino with
    | false => exact agr_still (stat_no hk hb) (stat_no hk (b1 ▸ hb))
    | true =>
      have e2 := stat_yes (f := g) hk (b1 ▸ hb)
      rw [← b2] at e2
      exact agr_still (stat_yes hk hb) e2
  · have ho := of_eq (k := 1) hi
    by_cases h0 : ofE f c.ino 1 = 0
    · have e2 := read_yes (f := g) hk (ho ▸ h0)
      rw [← b2] at e2
      exact agr_still (read_yes hk h0) e2
    · exact agr_still (read_no hk rfl h0) (read_no hk ho.symm h0)
  · have ho := of_eq (k := 1) hi
    by_cases h0 : ofE f c.ino 1 = 0
    · have e1 := write_yes (f := f) hk h0
      have e2 := write_yes (f := g) hk (ho ▸ h0)
      rw [← b2] at e2
      by_cases he : (writeD (findN f c.ino).text c.at_ c.text).2 = 0
      · exact agr_text (m := withT (findN f c.ino) (writeD (findN f c.ino).text c.at_ c.text).1) hp hpg h h0 rfl (do_yes e1 he) (do_yes e2 he)
      · exact agr_still (r := errR (writeD (findN f c.ino).text c.at_ c.text).2) (do_no e1 he) (do_no e2 he)
    · exact agr_still (write_no hk rfl h0) (write_no hk ho.symm h0)
  · have ho := of_eq (k := 1) hi
    by_cases h0 : ofE f c.ino 1 = 0
    · have e1 := cut_yes (f := f) hk h0
      have e2 := cut_yes (f := g) hk (ho ▸ h0)
      rw [← b2] at e2
      by_cases he : (cutD (findN f c.ino).text c.many).2 = 0
      · exact agr_text (m := withT (findN f c.ino) (cutD (findN f c.ino).text c.many).1) hp hpg h h0 rfl (do_yes e1 he) (do_yes e2 he)
      · exact agr_still (r := errR (cutD (findN f c.ino).text c.many).2) (do_no e1 he) (do_no e2 he)
    · exact agr_still (cut_no hk rfl h0) (cut_no hk ho.symm h0)
  · exact agr_take okf okg hp hpg h (by decide) (deed_9 hk) (deed_9 hk)
  · exact agr_take okf okg hp hpg h (by decide) (deed_10 hk) (deed_10 hk)
  · obtain ⟨t1, t2⟩ := B_eq (h _ (to_in f c))
    have et : giveErr g c.ino c.name c.to = giveErr f c.ino c.name c.to := by unfold giveErr; rw [d1, d2, t1, t2]
    have e1 := lk_do (f := f) hk
    have e2 := lk_do (f := g) hk
    rw [et] at e2
    by_cases he : giveErr f c.ino c.name c.to = 0
    · obtain ⟨d, n, a1, a2, a3, a4, a5⟩ := give_upd okf hp okc.name he
      obtain ⟨d', n', g1, g2, g3, g4, g5⟩ := give_upd okg hpg okc.name (et.trans he)
      have hdd : d' = d := by rw [hi, g1] at a1; exact Option.some.inj a1
      have hnn : n' = n := by rw [h _ (to_in f c), g2] at a2; exact Option.some.inj a2
      subst hdd hnn
      refine ⟨[(c.to, some (giveN n')), (c.ino, some (withL d' (entL d'.l c.name c.to)))], fun p hp => ?_, by simp, by rw [e1]; exact a3, by rw [e2]; exact g3, by rw [e1, e2], by rw [e1]; exact a4, by rw [e2]; exact g4, by rw [e1]; exact Nat.le_of_eq a5⟩
      rcases List.mem_cons.1 hp with rfl | hp
      · exact to_in f c
      · obtain rfl := List.mem_singleton.1 hp; exact ino_in f c
    · rw [show giveF f c.ino c.name c.to = f from if_neg he] at e1
      rw [show giveF g c.ino c.name c.to = g from if_neg (by rw [et]; exact he)] at e2
      exact agr_still e1 e2
  · have ho := of_eq (k := 3) hi
    by_cases h0 : ofE f c.ino 3 = 0
    · have e2 := link_yes (f := g) hk (ho ▸ h0)
      rw [← b2] at e2
      exact agr_still (link_yes hk h0) e2
    · exact agr_still (link_no hk rfl h0) (link_no hk ho.symm h0)
  · have e2 := rdir_do (f := g) hk
    rw [← d1, ← d2] at e2
    exact agr_still (rdir_do hk) e2
  · exact agr_still (none_do hk) (none_do hk)
theorem add_upd {f : Fsy} {dir : Int} {s : Txt} {n : Nod} (hp : rowsP f) (he : addErr f dir s n = 0) : ∃ d, AddsP f dir s n d ∧ Upd f (addF f dir s (addN f n)) [(f.next, some (withL (addN f n) [])), (dir, some (withL d (entL d.l s f.next)))] ∧ (addF f dir s (addN f n)).next = f.next + 1 := by
  obtain ⟨d, A⟩ := adds_of he
  obtain ⟨d1, d2, d3⟩ := rows_at hp A.dir
  have hrow := (dir_row d1 A.kind).2
  have hn1 : 1 ≤ f.next := by have := d1.1; omega
  have he0 := entE_cases (n := f.next) A.check hn1 A.away A.fewd
  obtain ⟨s1, s2, s3, s4⟩ := setL_rows hp A.dir A.kind (ent_row hrow A.check hn1 A.away A.fewd)
  have hg : addF f dir s (addN f n) = putF (setL f d (entL d.l s f.next)) (withL (addN f n) []) := by
    unfold addF
    rw [show (addN f n).ino = f.next from rfl, enter_set A.dir]
  refine ⟨d, A, fun j => ?_, ?_⟩
  · rw [hg, at_put (rows_rise s1), s4]
    rfl
  · rw [hg, put_next2]
    · rw [s3]
    · rw [s3]; rfl
theorem mov_frame {f : Fsy} {dir : Int} {s : Txt} {to : Int} {t : Txt} (okf : OkF f) (T : TreeP f) (ht0 : t.length ≤ 1000000) (h : movErr f dir s to t = 0) : ∃ L : List Int, L.length ≤ 3 ∧ (∀ x ∈ L, x = dir ∨ x = to ∨ (dirE f to = 0 ∧ isB (dirN f to).l t = true ∧ getI (dirN f to).l t = x)) ∧ ∀ x, ¬ x ∈ L → atF (movF f dir s to t) x = atF f x := by
  have hp := T.rows
  have h1 : mov1 f dir s to t = 0 := Classical.byContradiction fun hn => by
    unfold movErr at h
    rw [if_neg hn] at h
    exact hn h
  have h2 : mov2 f dir s to t = 0 := by
    unfold movErr at h
    rwa [if_pos h1] at h
  obtain ⟨d, dt, n, j, A⟩ := mov_of hp h1
  obtain ⟨e1, e2, e3⟩ := A.mB
  have hnj := A.nino
  have hst := row_srt (dir_row (rows_at hp A.to).1 A.kindt).2
  have hrowt := (dir_row (rows_at hp A.to).1 A.kindt).2
  obtain ⟨hbj, hjb⟩ := within_no hp A.node A.apart A.to A.kindt
  cases hb : isB dt.l t with
  | false =>
    have hg : getE (lI dt.l) t = .none := by
      rw [isB_get] at hb
      cases hg : getE (lI dt.l) t with
      | none => rfl
      | some i => rw [hg] at hb; cases hb
    have hm : movF f dir s to t = enterF (leaveF f dir s) to t j := by
      unfold movF
      rw [if_pos h1, if_neg (fun h => by rw [e1, hb] at h; cases h.1), if_pos h2, A.look]
      unfold mov0
      rw [if_neg (by rw [e1, hb]; decide), hnj]
    have hroom : ¬ to = dir → dt.l.length < 256 := fun hne => by
      unfold mov2 at h2
      rw [if_pos (by rw [e1, hb]), when0 (by decide), e3] at h2
      have : (to != dir) = true := by simpa using hne
      rw [this] at h2
      simp only [Bool.true_and, decide_eq_false_iff_not] at h2
      omega
    have G : Goes f dir s to t d dt j n := ⟨okf, hp, A.dir, A.kind, A.chk, A.ent, A.to, A.kindt, A.chkt, hg, A.node, hroom⟩
    rw [hm]
    refine ⟨[dir, to], by simp, fun x hx => ?_, fun x hx => ?_⟩
    · simp at hx; rcases hx with h | h
      · exact .inl h
      · exact .inr (.inl h)
    · have Z := G.go ht0
      rw [Z.at1, if_neg (fun e => hx (by simp [e])), Z.at0, if_neg (fun e => hx (by simp [e]))]
  | true =>
    obtain ⟨i2, hg⟩ : ∃ i, getE (lI dt.l) t = some i := by
      rw [isB_get] at hb
      cases hg : getE (lI dt.l) t with
      | none => rw [hg] at hb; cases hb
      | some i => exact ⟨i, rfl⟩
    obtain ⟨⟨m, hm⟩, _⟩ := T.kid to i2 (get_kid A.to A.kindt hg)
    have hmi := at_ino hm
    have hI : getI dt.l t = i2 := by rw [getI_get, hg]; rfl
    have hfm : findN f (getI dt.l t) = m := by rw [hI]; exact (at_BN hm).2
    by_cases hij : i2 = j
    · have : movF f dir s to t = f := by
        unfold movF
        rw [if_pos h1, if_pos ⟨by rw [e1, hb], by rw [e2, hI, A.look, hnj]; exact hij⟩]
      rw [this]
      exact ⟨[], by simp, fun x hx => (by cases hx), fun x _ => rfl⟩
    · have ho : overE n m = 0 := by
        unfold mov2 at h2
        rw [if_neg (by rw [e1, hb]; decide), if_neg (by rw [e2, hI, A.look, hnj]; exact hij), A.look, e2, hfm] at h2
        exact h2
      obtain ⟨hx1, hx2, hx3⟩ := mov_other hp A hb (by rw [hfm]; exact ho)
      rw [hfm] at hx1 hx2 hx3
      obtain ⟨w1, w2, w3, w4, w5⟩ := away_all (s := t) okf hp A.to A.kindt hx1
      obtain ⟨K, k2, k3, k4⟩ := kept_away okf T A.to A.kindt hg hm (over_full ho).1
      have hmv : movF f dir s to t = enterF (leaveF (awayF f to t m) dir s) to t j := by
        unfold movF
        rw [if_pos h1, if_neg (fun h => hij (by have := h.2; rw [e2, hI, A.look, hnj] at this; exact this)), if_pos h2, A.look]
        unfold mov0
        rw [if_pos (by rw [e1, hb]), hnj, e2, hfm]
      have hto : atF (awayF f to t m) to = some (withL dt (delL dt.l t)) := by rw [w5, if_neg (fun e => hx3 e.symm), if_pos rfl]
      have hdir : ∃ d1, atF (awayF f to t m) dir = some d1 ∧ d1.kind = 2 ∧ getE (lI d1.l) s = some j := by
        rw [w5, if_neg (fun e => hx2 e.symm)]
        split
        · rename_i hdt
          have hd : d = dt := by
            have h3 := A.dir
            rw [hdt, A.to] at h3
            exact (Option.some.inj h3).symm
          refine ⟨_, rfl, A.kindt, ?_⟩
          show getE (lI (delL dt.l t)) s = _
          have hne : ¬ s = t := fun e => by
            have h4 := A.ent
            rw [hd, e, hg] at h4
            exact hij (Option.some.inj h4)
          rw [get_del hst, if_neg hne, ← hd]
          exact A.ent
        · exact ⟨d, A.dir, A.kind, A.ent⟩
      obtain ⟨d1, g1, g2, g3⟩ := hdir
      have hn1 : atF (awayF f to t m) j = some n := by
        rw [w5, if_neg (fun e => hij (by rw [← hmi]; exact e.symm)), if_neg (fun e => hbj e.symm)]
        exact A.node
      have G : Goes (awayF f to t m) dir s to t d1 (withL dt (delL dt.l t)) j n := ⟨w1, w2, g1, g2, A.chk, g3, hto, A.kindt, A.chkt, by
        show getE (lI (delL dt.l t)) t = _
        rw [get_del hst, if_pos rfl], hn1, fun _ => by
        show (delL dt.l t).length < 256
        have := del_len1 hst hg
        have := hrowt.1
        omega⟩
      have Z := G.go ht0
      obtain ⟨z1, z2⟩ := dir_of A.to A.kindt
      rw [hmv]
      refine ⟨[dir, to, i2], by simp, fun x hx => ?_, fun x hx => ?_⟩
      · simp at hx
        rcases hx with h | h | h
        · exact .inl h
        · exact .inr (.inl h)
        · exact .inr (.inr ⟨z1, by rw [z2]; exact hb, by rw [z2, hI]; exact h.symm⟩)
      · rw [Z.at1, if_neg (fun e => hx (by simp [e])), Z.at0, if_neg (fun e => hx (by simp [e])), w5, if_neg (fun e => hx (by rw [e, hmi]; simp)), if_neg (fun e => hx (by simp [e]))]
theorem do_frame {f : Fsy} {c : Cal} (okf : OkF f) (T : TreeP f) (okc : OkCal c) : ∃ L : List Int, L.length ≤ 3 ∧ (∀ x ∈ L, (¬ c.kind = 15 ∧ x ∈ looksL f c) ∨ x = f.next) ∧ ∀ x, ¬ x ∈ L → atF (doF f c).1 x = atF f x := by
  have hp := T.rows
  have none : (doF f c).1 = f → ∃ L : List Int, L.length ≤ 3 ∧ (∀ x ∈ L, (¬ c.kind = 15 ∧ x ∈ looksL f c) ∨ x = f.next) ∧ ∀ x, ¬ x ∈ L → atF (doF f c).1 x = atF f x := fun h =>
    ⟨[], by simp, fun x hx => (by cases hx), fun x _ => by rw [h]⟩
  by_cases hw : wholeC c
  · have add : ∀ n : Nod, deedF f c = addO f c n → ¬ c.kind = 15 → ∃ L : List Int, L.length ≤ 3 ∧ (∀ x ∈ L, (¬ c.kind = 15 ∧ x ∈ looksL f c) ∨ x = f.next) ∧ ∀ x, ¬ x ∈ L → atF (doF f c).1 x = atF f x := fun n hd h15 => by
      by_cases he : addErr f c.ino c.name n = 0
      · obtain ⟨d, A, hu, _⟩ := add_upd hp he
        have e := add_yes hd he
        refine ⟨[f.next, c.ino], by simp, fun x hx => ?_, fun x hx => ?_⟩
        · simp at hx
          rcases hx with rfl | rfl
          · exact .inr rfl
          · exact .inl ⟨h15, ino_in f c⟩
        · rw [e]
          refine hu.out fun p hp e => hx ?_
          rcases List.mem_cons.1 hp with rfl | hp
          · rw [← e]; simp
          · obtain rfl := List.mem_singleton.1 hp; rw [← e]; simp
      · exact none (by rw [add_no hd rfl he])
    rcases hw with hk | hk | hk | hk | hk
    · exact add _ (deed_6 hk) (by omega)
    · exact add _ (deed_7 hk) (by omega)
    · by_cases hb : (c.text.length : Int) > 4096
      · exact none (by rw [sym_big hk hb])
      · exact add _ (sym_add hk hb) (by omega)
    · have e := mv_do (f := f) hk
      by_cases he : movErr f c.ino c.name c.to c.name2 = 0
      · obtain ⟨L, l1, l2, l3⟩ := mov_frame okf T okc.name2 he
        refine ⟨L, l1, fun x hx => .inl ⟨by omega, ?_⟩, by rw [e]; exact l3⟩
        rcases l2 x hx with rfl | rfl | ⟨h1, h2, h3⟩
        · exact ino_in f c
        · exact to_in f c
        · exact looksL_mem.2 (.inr ⟨c.to, .inr rfl, h1, c.name2, .inr rfl, h2, h3⟩)
      · exact none (by rw [e]; exact movF_no he)
    · exact none (by rw [sfs_do hk])
  · obtain ⟨u, A⟩ := do_agree okf okf hp hp okc hw (fun _ _ => rfl)
    have h15 : ¬ c.kind = 15 := fun h => hw (.inr (.inr (.inr (.inr h))))
    refine ⟨u.map (·.1), by rw [List.length_map]; have := A.few; omega, fun x hx => ?_, fun x hx => ?_⟩
    · obtain ⟨p, hp, rfl⟩ := List.mem_map.1 hx
      exact .inl ⟨h15, A.looks p hp⟩
    · exact A.updf.out fun p hp e => hx (List.mem_map.2 ⟨p, hp, e⟩)
end Go.Proofs.YtkhnialfkndiiaaGreat

set_option linter.unusedVariables false
set_option linter.unusedSimpArgs false
namespace Go.Proofs.YtkhnialfkndiiaaGreat
open Go Go.RowKit Copyhold
theorem flat_int : ∀ (l : List Int), (l.map intA).flatten = l.map aI
  | [] => rfl
  | x :: r => by
    rw [List.map_cons, List.flatten_cons, flat_int r]; rfl
theorem row_box {D : Nat → Prop} {w : World} {V : Value} {e : TypeId} {l : List Int} (h : BoxR D w (.row V e 1 (l.map intA))) (h1 : 1 ≤ l.length) :
    ∃ g cap cur, V = .slice (some ⟨g, 0, none⟩) l.length cap ∧ w.heap[g]? = some (.cells cur e (0, 0)) ∧ l.length ≤ cap ∧ cap ≤ maxLen ∧ cur.size = cap * 1 ∧ cur.toList.take l.length = l.map (Value.int .i64) := by
  obtain ⟨_, us, h2, _, h4⟩ := h
  have hn : us.length = l.length := by have := h2.1; rw [List.length_map] at this; omega
  have hus : us = l.map (Value.int .i64) := by
    apply List.ext_getElem?
    intro j
    by_cases hj : j < l.length
    · have hu : us[j]? = some us[j] := List.getElem?_eq_getElem (by omega)
      have := h4 j (aI l[j]) us[j] (by rw [flat_int, List.getElem?_map, List.getElem?_eq_getElem hj]; rfl) hu
      rw [hu, List.getElem?_map, List.getElem?_eq_getElem hj]
      generalize us[j] = q at this
      cases this
      rfl
    · rw [List.getElem?_eq_none (by omega), List.getElem?_eq_none (by rw [List.length_map]; omega)]
  rw [List.length_map] at h2
  rcases h2.2 with ⟨_, h0⟩ | ⟨g, cap, cur, hv, _, hb, a1, a2, a3, a4⟩
  · omega
  · exact ⟨g, cap, cur, hv, hb, a1, a2, a3, by rw [Nat.mul_one] at a4; rw [a4, hus]⟩
theorem box_row {D : Nat → Prop} {w : World} {V : Value} {e : TypeId} {l : List Int} (h : w.ownsRow 0 e 1 V l.length (l.map (Value.int .i64))) : BoxR D w (.row V e 1 (l.map intA)) := by
  refine ⟨fun x hx => ?_, l.map (Value.int .i64), by rw [List.length_map]; exact h, fun u hu => ?_, fun j a u ha hu => ?_⟩
  · obtain ⟨y, _, rfl⟩ := List.mem_map.1 hx; rfl
  · obtain ⟨y, _, rfl⟩ := List.mem_map.1 hu; rfl
  · rw [flat_int, List.getElem?_map] at ha
    rw [List.getElem?_map] at hu
    cases hl : l[j]? with
    | none => rw [hl] at ha; cases ha
    | some x =>
      rw [hl] at ha hu
      obtain rfl := Option.some.inj ha
      obtain rfl := Option.some.inj hu
      exact .val _
theorem sortG_spec (l : List Int) (V : Value) (h1 : 1 ≤ l.length) (hl : l.length ≤ 1000000) : LSpec2 Tryz.prog 101 [.rw 30 V l.length] (.row V 3 1 (l.map intA)) (.tup []) (.row V 3 1 ((l.mergeSort fun x y => decide (x ≤ y)).map intA)) := by
  intro D w vs hD hvs hy hyD
  obtain ⟨g, cap, cur, rfl, hb, hc1, hc2, hc3, ht⟩ := row_box hy h1
  obtain ⟨u, rfl, hu⟩ := RaAll.one hvs
  have hu' : u = .slice (some ⟨g, 0, none⟩) l.length cap := by cases hu; rfl
  subst hu'
  have hg : g < w.heap.size := (Array.getElem?_eq_some_iff.1 hb).1
  refine (Tryz.slices_Sort_int g 0 cap l w (holds_of_blockI hb ht) hg (by omega)).mono ?_
  rintro e w' ⟨rfl, n, os, rfl⟩
  have hgb := Go.grownBy_sortedI (w := w) (g := g) (n := n) (os := os) (l.mergeSort fun x y => decide (x ≤ y)).toArray
  have hlen : (l.mergeSort fun x y => decide (x ≤ y)).length = l.length := List.length_mergeSort l
  have how := Go.ownsRow_sortedI (n := n) (os := os) (ts := l.mergeSort fun x y => decide (x ≤ y)) hlen (Nat.zero_le g) hb hc1 hc2 hc3
  refine ⟨_, D, rfl, ⟨hgb.os, hgb.tape, hgb.output, hgb.size, fun k hk => absurd hk (by omega)⟩, fun k hk hl => hgb.block k hl (fun e => hk e.symm), fun _ h => h, fun b hb => ⟨Nat.lt_of_lt_of_le (hD b hb) hgb.size, .inl hb⟩, fun g' hg' => ⟨.inl hg', hyD g' hg'⟩, box_row (by rw [hlen]; exact how), .tup [] #[] rfl (by simp)⟩
theorem compactG_spec (l : List Int) (V : Value) (h1 : 1 ≤ l.length) (hl : l.length ≤ 1000000) : LSpec Tryz.prog 102 [.rw 30 V l.length] (.row V 3 1 (l.map intA)) (.sl 1 false ((Lib.compact l).map intA)) := by
  intro D w vs hD hvs hy hyD
  obtain ⟨g, cap, cur, rfl, hb, hc1, hc2, hc3, ht⟩ := row_box hy h1
  obtain ⟨u, rfl, hu⟩ := RaAll.one hvs
  have hu' : u = .slice (some ⟨g, 0, none⟩) l.length cap := by cases hu; rfl
  subst hu'
  have hg : g < w.heap.size := (Array.getElem?_eq_some_iff.1 hb).1
  refine (Tryz.slices_Compact_int g 0 cap l w (holds_of_blockI hb ht) (by omega) hc1).mono ?_
  rintro e w' ⟨rfl, q, hw'⟩
  have hcl := compact_len l
  have hlen : (Lib.compact l ++ List.replicate (l.length - (Lib.compact l).length) 0).length = l.length := by rw [List.length_append, List.length_replicate]; omega
  have hgr : ∀ W : World, Go.Sort.grow W #[] = W := fun W => by simp [Go.Sort.grow]
  rw [← hgr (Go.Sort.putRow _ _ _ _ _)] at hw'
  have hgb := Go.grownBy_sortedI (w := w) (g := g) (n := q) (os := #[]) (Lib.compact l ++ List.replicate (l.length - (Lib.compact l).length) 0).toArray
  have how := Go.ownsRow_sortedI (n := q) (os := #[]) (ts := Lib.compact l ++ List.replicate (l.length - (Lib.compact l).length) 0) hlen (Nat.zero_le g) hb hc1 hc2 hc3
  rw [← hw'] at hgb how
  refine ⟨_, fun b => D b ∨ b = g, rfl, ⟨hgb.os, hgb.tape, hgb.output, hgb.size, fun k hk => absurd hk (by omega)⟩, fun k hk hl => hgb.block k hl (fun e => hk e.symm), fun _ h => .inl h, fun b hb => ?_, ?_⟩
  · rcases hb with hb | rfl
    · exact ⟨Nat.lt_of_lt_of_le (hD b hb) hgb.size, .inl hb⟩
    · exact ⟨Nat.lt_of_lt_of_le hg hgb.size, .inr (.inl rfl)⟩
  · have h := Ra.sl (D := fun b => D b ∨ b = g) (w := w') 1 false ((Lib.compact l).map intA) (some ⟨g, 0, none⟩) cap g 0 (fun i _ => .int .i64 ((Lib.compact l).getD i 0)) (by rw [List.length_map]; omega) (fun h => by cases h) (fun _ => ⟨rfl, .inr rfl, Nat.lt_of_lt_of_le hg hgb.size⟩)
      (fun i e he => by
        rw [List.getElem?_map] at he
        cases hc : (Lib.compact l)[i]? with
        | none => rw [hc] at he; cases he
        | some x => rw [hc] at he; obtain rfl := Option.some.inj he; rfl)
      (fun i e j x he hx => by
        rw [List.getElem?_map] at he
        cases hc : (Lib.compact l)[i]? with
        | none => rw [hc] at he; cases he
        | some y =>
          rw [hc] at he
          obtain rfl := Option.some.inj he
          have hj : j = 0 := by have := (List.getElem?_eq_some_iff.1 hx).1; have e : (intA y).length = 1 := rfl; omega
          subst hj
          have hi := (List.getElem?_eq_some_iff.1 hc).1
          refine ⟨?_, rfl⟩
          rw [Nat.mul_one, Nat.add_zero, Nat.zero_add, how.cellAt i (by omega), List.getElem?_map, List.getElem?_append_left hi, hc]
          simp [List.getD, hc])
      (fun i e j x he hx => by
        rw [List.getElem?_map] at he
        cases hc : (Lib.compact l)[i]? with
        | none => rw [hc] at he; cases he
        | some y =>
          rw [hc] at he
          obtain rfl := Option.some.inj he
          have hj : j = 0 := by have := (List.getElem?_eq_some_iff.1 hx).1; have e : (intA y).length = 1 := rfl; omega
          subst hj
          obtain rfl := Option.some.inj hx
          have e : (Lib.compact l).getD i 0 = y := by simp [List.getD, hc]
          show Ra _ _ (aI y) (.int .i64 ((Lib.compact l).getD i 0))
          rw [e]
          exact .val _)
    rw [List.length_map] at h
    exact h
end Go.Proofs.YtkhnialfkndiiaaGreat
