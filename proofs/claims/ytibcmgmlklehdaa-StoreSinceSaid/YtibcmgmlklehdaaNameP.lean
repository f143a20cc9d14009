/- Layer 6, without a program: which names and rows are right, a name's place in a row that rises, what entering and leaving make of one. -/
import Derived.Test.YtibcmgmlklehdaaKit
set_option linter.unusedVariables false
namespace Copyhold.Name

abbrev Ent := List UInt8 × Int

/-- is a name right? -/
def okN (s : List UInt8) : Bool := !(s == []) && !(s == [46]) && !(s == [46, 46]) && decide (s.length ≤ 32) && !s.contains 47 && !s.contains 0
/-- is an entry right? -/
def okE (x : Ent) : Bool := okN x.1 && decide (1 ≤ x.2)
/-- does an entry's name stand behind the one ahead of it? -/
def upAt (l : List Ent) (i : Nat) (x : Ent) : Bool := i == 0 || (match l[i - 1]? with | some y => decide (y.1 < x.1) | none => true)
/-- is the entry at a place right? -/
def okAt (l : List Ent) (i : Nat) : Bool := match l[i]? with | none => true | some x => okE x && upAt l i x
/-- is a row right? -/
def rightE (l : List Ent) : Bool := decide (l.length ≤ 256) && (List.range l.length).all (okAt l)

def Srt (l : List Ent) : Prop := l.Pairwise (fun a b => a.1 < b.1)

theorem ltT {a b c : List UInt8} (h : a < b) (h2 : b < c) : a < c := List.lt_trans h h2
theorem ltI {a : List UInt8} (h : a < a) : False := List.lt_irrefl a h
theorem ltA {a b : List UInt8} (h : ¬ a < b) (h2 : ¬ b < a) : a = b := List.le_antisymm (List.not_lt.mp h2) (List.not_lt.mp h)

theorem rightE_iff (l : List Ent) : rightE l = true ↔ l.length ≤ 256 ∧ (∀ x ∈ l, okE x = true) ∧ Srt l := by
  constructor
  · intro h
    simp only [rightE, Bool.and_eq_true, decide_eq_true_eq, List.all_eq_true, List.mem_range] at h
    obtain ⟨h1, h2⟩ := h
    have ha : ∀ i (hi : i < l.length), okE l[i] = true ∧ (∀ j (hj : j < l.length), j + 1 = i → l[j].1 < l[i].1) := by
      intro i hi
      have := h2 i hi
      simp only [okAt, List.getElem?_eq_getElem hi, Bool.and_eq_true, upAt, Bool.or_eq_true, beq_iff_eq] at this
      refine ⟨this.1, fun j hj e => ?_⟩
      rcases this.2 with h0 | h0
      · omega
      · rw [show i - 1 = j from by omega, List.getElem?_eq_getElem hj] at h0
        simpa using h0
    refine ⟨h1, fun x hx => ?_, ?_⟩
    · obtain ⟨i, hi, rfl⟩ := List.mem_iff_getElem.1 hx
      exact (ha i hi).1
    · refine List.pairwise_iff_getElem.2 fun i j hi hj hij => ?_
      obtain ⟨d, rfl⟩ : ∃ d, j = i + 1 + d := ⟨j - i - 1, by omega⟩
      clear hij
      induction d with
      | zero => exact (ha (i + 1) hj).2 i hi rfl
      | succ d ih => exact ltT (ih (by omega)) ((ha (i + 1 + (d + 1)) hj).2 (i + 1 + d) (by omega) rfl)
  · rintro ⟨h1, h2, h3⟩
    simp only [rightE, Bool.and_eq_true, decide_eq_true_eq, List.all_eq_true, List.mem_range]
    refine ⟨h1, fun i hi => ?_⟩
    simp only [okAt, List.getElem?_eq_getElem hi, Bool.and_eq_true, upAt, Bool.or_eq_true, beq_iff_eq]
    refine ⟨h2 _ (List.getElem_mem _), ?_⟩
    by_cases h0 : i = 0
    · exact .inl h0
    · right
      rw [List.getElem?_eq_getElem (by omega)]
      simp only [decide_eq_true_eq]
      exact List.pairwise_iff_getElem.1 h3 (i - 1) i (by omega) hi (by omega)

/-- how many stand ahead of a name -/
def pos (l : List Ent) (s : List UInt8) : Nat := l.countP (fun x => decide (x.1 < s))
def isAt (l : List Ent) (s : List UInt8) : Bool := l.any (fun x => x.1 == s)
def getE (l : List Ent) (s : List UInt8) : Option Int := (l.find? (fun x => x.1 == s)).map (·.2)
def insE : List Ent → Ent → List Ent
  | [], x => [x]
  | a :: l, x => if a.1 < x.1 then a :: insE l x else x :: a :: l
def delE (l : List Ent) (s : List UInt8) : List Ent := l.filter (fun x => !(x.1 == s))

theorem pos_le (l : List Ent) (s : List UInt8) : pos l s ≤ l.length := List.countP_le_length
theorem Srt.tail {a : Ent} {l : List Ent} (h : Srt (a :: l)) : Srt l := (List.pairwise_cons.1 h).2
theorem Srt.head {a : Ent} {l : List Ent} (h : Srt (a :: l)) : ∀ x ∈ l, a.1 < x.1 := (List.pairwise_cons.1 h).1

theorem pos_lt {a : Ent} {l : List Ent} {s : List UInt8} (h : a.1 < s) : pos (a :: l) s = pos l s + 1 := by
  simp [pos, h]
theorem pos_ge {a : Ent} {l : List Ent} {s : List UInt8} (hs : Srt (a :: l)) (h : ¬ a.1 < s) : pos (a :: l) s = 0 := by
  unfold pos
  rw [List.countP_eq_zero]
  intro x hx
  rcases List.mem_cons.1 hx with rfl | hx
  · simpa using h
  · simp only [decide_eq_true_eq]
    exact fun hxs => h (ltT (hs.head x hx) hxs)

theorem take_ins {l : List Ent} (h : Srt l) (s : List UInt8) (n : Int) : l.take (pos l s) ++ (s, n) :: l.drop (pos l s) = insE l (s, n) := by
  induction l with
  | nil => rfl
  | cons a l ih =>
    by_cases ha : a.1 < s
    · rw [pos_lt ha]
      simp only [List.take_succ_cons, List.drop_succ_cons, List.cons_append, insE, ha, if_true]
      rw [ih h.tail]
    · rw [pos_ge h ha]
      simp [insE, ha]

theorem isAt_cons (a : Ent) (l : List Ent) (s : List UInt8) : isAt (a :: l) s = (a.1 == s || isAt l s) := rfl
theorem isAt_mem {l : List Ent} {s : List UInt8} : isAt l s = true ↔ ∃ x ∈ l, x.1 = s := by simp [isAt]

theorem not_above {a : Ent} {l : List Ent} {s : List UInt8} (h : Srt (a :: l)) (ha : ¬ a.1 < s) : isAt l s = false := by
  rw [Bool.eq_false_iff]
  intro hi
  obtain ⟨x, hx, rfl⟩ := isAt_mem.1 hi
  exact ha (h.head x hx)

theorem del_none {l : List Ent} {s : List UInt8} (h : isAt l s = false) : delE l s = l := by
  unfold delE
  rw [List.filter_eq_self]
  intro x hx
  rw [Bool.eq_false_iff] at h
  simp only [Bool.not_eq_true', beq_eq_false_iff_ne]
  exact fun e => h (isAt_mem.2 ⟨x, hx, e⟩)

theorem take_del {l : List Ent} (h : Srt l) {s : List UInt8} (hi : isAt l s = true) : l.take (pos l s) ++ l.drop (pos l s + 1) = delE l s := by
  induction l with
  | nil => rfl
  | cons a l ih =>
    by_cases ha : a.1 < s
    · have hne : (a.1 == s) = false := by
        rw [beq_eq_false_iff_ne]; rintro rfl; exact ltI ha
      rw [isAt_cons, hne, Bool.false_or] at hi
      rw [pos_lt ha]
      simp only [List.take_succ_cons, List.drop_succ_cons, List.cons_append, delE, List.filter_cons, hne, Bool.not_false, if_true]
      rw [ih h.tail hi]
      rfl
    · have hn := not_above h ha
      rw [isAt_cons, hn, Bool.or_false] at hi
      rw [pos_ge h ha]
      simp only [List.take_zero, List.nil_append, Nat.zero_add, List.drop_succ_cons, List.drop_zero, delE, List.filter_cons, hi, Bool.not_true]
      exact (del_none hn).symm

theorem at_pos {l : List Ent} (h : Srt l) (s : List UInt8) : (l[pos l s]?.any (fun x => x.1 == s)) = isAt l s := by
  induction l with
  | nil => rfl
  | cons a l ih =>
    by_cases ha : a.1 < s
    · have hne : (a.1 == s) = false := by
        rw [beq_eq_false_iff_ne]; rintro rfl; exact ltI ha
      rw [pos_lt ha, List.getElem?_cons_succ, ih h.tail, isAt_cons, hne, Bool.false_or]
    · rw [pos_ge h ha, isAt_cons, not_above h ha, Bool.or_false]
      rfl

theorem get_pos {l : List Ent} (h : Srt l) {s : List UInt8} (hi : isAt l s = true) : ∃ x, l[pos l s]? = some x ∧ x.1 = s ∧ getE l s = some x.2 := by
  induction l with
  | nil => cases hi
  | cons a l ih =>
    by_cases ha : a.1 < s
    · have hne : (a.1 == s) = false := by
        rw [beq_eq_false_iff_ne]; rintro rfl; exact ltI ha
      rw [isAt_cons, hne, Bool.false_or] at hi
      obtain ⟨x, h1, h2, h3⟩ := ih h.tail hi
      refine ⟨x, by rw [pos_lt ha, List.getElem?_cons_succ, h1], h2, ?_⟩
      unfold getE at h3 ⊢
      rw [List.find?_cons, hne]
      exact h3
    · rw [isAt_cons, not_above h ha, Bool.or_false] at hi
      refine ⟨a, by rw [pos_ge h ha]; rfl, by simpa using hi, ?_⟩
      unfold getE
      rw [List.find?_cons, hi]
      rfl

theorem get_none {l : List Ent} {s : List UInt8} (hi : isAt l s = false) : getE l s = none := by
  unfold getE
  rw [Option.map_eq_none_iff, List.find?_eq_none]
  intro x hx e
  rw [Bool.eq_false_iff] at hi
  exact hi (isAt_mem.2 ⟨x, hx, by simpa using e⟩)
theorem get_some {l : List Ent} {s : List UInt8} : isAt l s = (getE l s).isSome := by
  by_cases h : isAt l s = true
  · obtain ⟨x, hx, e⟩ := isAt_mem.1 h
    rw [h]
    unfold getE
    rw [Option.isSome_map]
    symm
    rw [List.find?_isSome]
    exact ⟨x, hx, by simpa using e⟩
  · have h : isAt l s = false := by simpa using h
    rw [h, get_none h]
    rfl

theorem mem_ins (l : List Ent) (x y : Ent) : y ∈ insE l x ↔ y = x ∨ y ∈ l := by
  induction l with
  | nil => simp [insE]
  | cons a l ih =>
    unfold insE
    split
    · simp only [List.mem_cons, ih]
      constructor
      · rintro (h | h | h) <;> simp [h]
      · rintro (h | h | h) <;> simp [h]
    · simp
theorem len_ins (l : List Ent) (x : Ent) : (insE l x).length = l.length + 1 := by
  induction l with
  | nil => rfl
  | cons a l ih =>
    unfold insE
    split <;> simp [ih]
theorem srt_ins {l : List Ent} (h : Srt l) {x : Ent} (hi : isAt l x.1 = false) : Srt (insE l x) := by
  induction l with
  | nil => exact List.pairwise_singleton _ _
  | cons a l ih =>
    rw [isAt_cons, Bool.or_eq_false_iff] at hi
    unfold insE
    split
    · rename_i ha
      refine List.pairwise_cons.2 ⟨fun y hy => ?_, ih h.tail hi.2⟩
      rcases (mem_ins l x y).1 hy with rfl | hy
      · exact ha
      · exact h.head y hy
    · rename_i ha
      have hax : x.1 < a.1 := Classical.byContradiction fun hn => (beq_eq_false_iff_ne.1 hi.1) (ltA ha hn)
      refine List.pairwise_cons.2 ⟨fun y hy => ?_, h⟩
      rcases List.mem_cons.1 hy with rfl | hy
      · exact hax
      · exact ltT hax (h.head y hy)
theorem get_ins {l : List Ent} {s t : List UInt8} {n : Int} (hi : isAt l s = false) : getE (insE l (s, n)) t = if t = s then some n else getE l t := by
  induction l with
  | nil =>
    by_cases h : t = s
    · subst h; simp [getE, insE]
    · simp [getE, insE, h, Ne.symm h]
  | cons a l ih =>
    rw [isAt_cons, Bool.or_eq_false_iff] at hi
    have has : a.1 ≠ s := beq_eq_false_iff_ne.1 hi.1
    have ih := ih hi.2
    unfold insE
    split
    · unfold getE at ih ⊢
      by_cases hat : a.1 = t
      · have h1 : (a.1 == t) = true := by simpa using hat
        have : t ≠ s := hat ▸ has
        simp [h1, this]
      · have h1 : (a.1 == t) = false := by simpa using hat
        rw [List.find?_cons, h1, List.find?_cons, h1]
        exact ih
    · unfold getE
      by_cases h : t = s
      · subst h; simp
      · have h1 : (s == t) = false := by simpa using Ne.symm h
        rw [List.find?_cons]
        simp [h1, h]
theorem del_ins {l : List Ent} {s : List UInt8} {n : Int} (hi : isAt l s = false) : delE (insE l (s, n)) s = l := by
  induction l with
  | nil => simp [insE, delE]
  | cons a l ih =>
    have hd := del_none hi
    rw [isAt_cons, Bool.or_eq_false_iff] at hi
    unfold insE
    split
    · have h2 := ih hi.2
      unfold delE at h2 ⊢
      rw [List.filter_cons]
      simp only [hi.1, Bool.not_false, if_true, h2]
    · unfold delE at hd ⊢
      rw [List.filter_cons]
      simp only [beq_self_eq_true, Bool.not_true, Bool.false_eq_true, if_false]
      exact hd
theorem get_del {l : List Ent} {s t : List UInt8} : getE (delE l s) t = if t = s then none else getE l t := by
  induction l with
  | nil => simp [getE, delE]
  | cons a l ih =>
    unfold getE delE at ih ⊢
    rw [List.filter_cons]
    by_cases has : a.1 = s
    · have h1 : (a.1 == s) = true := by simpa using has
      simp only [h1, Bool.not_true, Bool.false_eq_true, if_false, ih]
      by_cases h : t = s
      · simp [h]
      · have h2 : (a.1 == t) = false := by
          rw [beq_eq_false_iff_ne, has]
          exact Ne.symm h
        simp [h, h2]
    · have h1 : (a.1 == s) = false := by simpa using has
      simp only [h1, Bool.not_false, if_true]
      rw [List.find?_cons, List.find?_cons]
      by_cases hat : a.1 = t
      · have h2 : (a.1 == t) = true := by simpa using hat
        have : t ≠ s := hat ▸ has
        simp [h2, this]
      · have h2 : (a.1 == t) = false := by simpa using hat
        simp only [h2]
        exact ih
theorem srt_del {l : List Ent} (h : Srt l) (s : List UInt8) : Srt (delE l s) := List.Pairwise.filter _ h

theorem right_ins {l : List Ent} {s : List UInt8} {n : Int} (h : rightE l = true) (hs : okN s = true) (hn : 1 ≤ n) (hi : isAt l s = false) (hl : l.length < 256) : rightE (insE l (s, n)) = true := by
  rw [rightE_iff] at h ⊢
  refine ⟨by rw [len_ins]; omega, fun x hx => ?_, srt_ins h.2.2 hi⟩
  rcases (mem_ins l _ x).1 hx with rfl | hx
  · simp [okE, hs, hn]
  · exact h.2.1 x hx
theorem right_at {l : List Ent} {s : List UInt8} (h : rightE l = true) (hi : isAt l s = true) : okN s = true := by
  obtain ⟨x, hx, rfl⟩ := isAt_mem.1 hi
  have := ((rightE_iff l).1 h).2.1 x hx
  simp only [okE, Bool.and_eq_true] at this
  exact this.1
theorem right_srt {l : List Ent} (h : rightE l = true) : Srt l := ((rightE_iff l).1 h).2.2
theorem right_len {l : List Ent} (h : rightE l = true) : l.length ≤ 256 := ((rightE_iff l).1 h).1

/-- what entering makes of a row, and why not -/
def enterF (l : List Ent) (s : List UInt8) (n : Int) : List Ent × Int :=
  if okN s = false then (l, 10) else if n < 1 then (l, 1) else if isAt l s = true then (l, 7) else if 256 ≤ l.length then (l, 12) else (insE l (s, n), 0)
/-- what leaving makes of a row -/
def leaveF (l : List Ent) (s : List UInt8) : List Ent × Int × Int := if isAt l s = true then (delE l s, (getE l s).getD 0, 0) else (l, 0, 6)

theorem enter_ok {l : List Ent} {s : List UInt8} {n : Int} (h1 : okN s = true) (h2 : 1 ≤ n) (h3 : isAt l s = false) (h4 : l.length < 256) : enterF l s n = (insE l (s, n), 0) := by
  unfold enterF
  rw [if_neg (by simp [h1]), if_neg (by omega), if_neg (by simp [h3]), if_neg (by omega)]
theorem enter_cases (l : List Ent) (s : List UInt8) (n : Int) : (∃ e, e ≠ 0 ∧ enterF l s n = (l, e) ∧ (e = 10 ∨ e = 1 ∨ e = 7 ∨ e = 12)) ∨ (okN s = true ∧ 1 ≤ n ∧ isAt l s = false ∧ l.length < 256 ∧ enterF l s n = (insE l (s, n), 0)) := by
  by_cases h1 : okN s = false
  · exact .inl ⟨10, by omega, by simp [enterF, h1], by omega⟩
  by_cases h2 : n < 1
  · exact .inl ⟨1, by omega, by simp [enterF, h1, h2], by omega⟩
  by_cases h3 : isAt l s = true
  · exact .inl ⟨7, by omega, by simp [enterF, h1, h2, h3], by omega⟩
  by_cases h4 : 256 ≤ l.length
  · exact .inl ⟨12, by omega, by simp [enterF, h1, h2, h3, h4], by omega⟩
  · exact .inr ⟨by simpa using h1, by omega, by simpa using h3, by omega, enter_ok (by simpa using h1) (by omega) (by simpa using h3) (by omega)⟩
end Copyhold.Name
