/- Rows of entries in memory: what they read as, and those among the arguments. Layer 6, without a program: what a path is split into. strings.Contains of one byte, name.Check, copyholdref06.Check: they answer as the document says; memory is as it was. -/
import Derived.Test.YtkepkbgebickiaaRows
import Derived.Test.YtkepkbgebickiaaMrgH
import Derived.Test.YtkepkbgebickiaaMrgI
import Derived.Laws.Externs
import Derived.Lib.Bytealg
set_option linter.unusedVariables false
namespace Copyhold.Name
open Go Go.RowKit
def entC (x : Ent) : List Value := [strV x.1, .int .i64 x.2]
def Ents (w : World) (v : Value) (l : List Ent) : Prop := Sl w 2 v l.length (l.flatMap entC)
theorem entC_get : ∀ (l : List Ent) (i : Nat), (l.flatMap entC)[i * 2]? = l[i]?.map (fun x => strV x.1) ∧ (l.flatMap entC)[i * 2 + 1]? = l[i]?.map (fun x => .int .i64 x.2)
  | [], i => by simp
  | x :: l, 0 => by simp [entC]
  | x :: l, i + 1 => by
    have h := entC_get l i
    rw [List.flatMap_cons]
    constructor
    · rw [List.getElem?_append_right (by simp [entC]; omega)]
      simp only [entC, List.length_cons, List.length_nil]
      rw [show (i + 1) * 2 - (0 + 1 + 1) = i * 2 from by omega, h.1]
      simp
    · rw [List.getElem?_append_right (by simp [entC]; omega)]
      simp only [entC, List.length_cons, List.length_nil]
      rw [show (i + 1) * 2 + 1 - (0 + 1 + 1) = i * 2 + 1 from by omega, h.2]
      simp
theorem entC_len (l : List Ent) : (l.flatMap entC).length = l.length * 2 := by
  induction l with
  | nil => rfl
  | cons x l ih => rw [List.flatMap_cons, List.length_append, ih]; simp [entC]; omega
theorem Ents.shape {w : World} {v : Value} {l : List Ent} (h : Ents w v l) : ∃ A c, v = .slice A l.length c ∧ l.length ≤ c := by
  obtain ⟨A, c, rfl, hc, _⟩ := Sl.shape h
  exact ⟨A, c, rfl, hc⟩
theorem Ents.below {w w' : World} {v : Value} {l : List Ent} (h : Ents w v l) (hb : Below w.heap.size w w') : Ents w' v l := Sl.below h hb
theorem Ents.nil (w : World) : Ents w (.slice none 0 0) [] := Sl.nil w 2
theorem Ents.at {w : World} {A : Option Addr} {c : Nat} {l : List Ent} (h : Ents w (.slice A l.length c) l) (k : Nat) (hk : k < l.length) :
    ∃ b off, A = some ⟨b, off, none⟩ ∧ b < w.heap.size ∧ l.length ≤ c ∧ w.cell? ⟨b, off + k * 2, none⟩ = some (.string ⟨(l[k].1).toArray⟩) ∧ w.cell? ⟨b, off + k * 2 + 1, none⟩ = some (.int .i64 l[k].2) := by
  obtain ⟨b, off, rfl, hb, hc, _, hcell⟩ := Sl.at h (by omega)
  have hg := entC_get l k
  rw [List.getElem?_eq_getElem hk] at hg
  exact ⟨b, off, rfl, hb, hc, hcell _ _ hg.1, by rw [Nat.add_assoc]; exact hcell _ _ hg.2⟩
theorem flatMap_take (l : List Ent) (i : Nat) : (l.take i).flatMap entC = (l.flatMap entC).take (i * 2) := by
  induction l generalizing i with
  | nil => simp
  | cons x l ih =>
    cases i with
    | zero => simp
    | succ i =>
      rw [List.take_succ_cons, List.flatMap_cons, List.flatMap_cons, ih i, List.take_append]
      have : (entC x).length = 2 := rfl
      rw [this, show (i + 1) * 2 - 2 = i * 2 from by omega, List.take_of_length_le (l := entC x) (by rw [this]; omega)]
theorem flatMap_drop (l : List Ent) (i : Nat) : (l.drop i).flatMap entC = (l.flatMap entC).drop (i * 2) := by
  induction l generalizing i with
  | nil => simp
  | cons x l ih =>
    cases i with
    | zero => simp
    | succ i =>
      rw [List.drop_succ_cons, List.flatMap_cons, ih i, List.drop_append]
      have : (entC x).length = 2 := rfl
      rw [this, show (i + 1) * 2 - 2 = i * 2 from by omega, List.drop_of_length_le (l := entC x) (by rw [this]; omega), List.nil_append]
theorem Ents.take {w : World} {A : Option Addr} {c : Nat} {l : List Ent} (h : Ents w (.slice A l.length c) l) (i : Nat) (hi : i ≤ l.length) : Ents w (.slice A i c) (l.take i) := by
  obtain ⟨A', c', he, hc, hl, hh⟩ := h
  simp only [Value.slice.injEq] at he
  obtain ⟨rfl, _, rfl⟩ := he
  refine ⟨A, c, by rw [List.length_take, Nat.min_eq_left hi], by rw [List.length_take]; omega, entC_len _, fun h0 => ?_⟩
  rw [List.length_take] at h0
  obtain ⟨b, off, rfl, hb, hcell⟩ := hh (by omega)
  refine ⟨b, off, rfl, hb, fun j x hx => hcell j x ?_⟩
  rw [flatMap_take] at hx
  rw [List.getElem?_take] at hx
  split at hx
  · exact hx
  · cases hx
theorem Ents.drop {w : World} {A A' : Option Addr} {c n c' : Nat} {l : List Ent} (h : Ents w (.slice A l.length c) l) (i : Nat) (hi : i ≤ l.length) (hn : n = l.length - i) (hc' : c' = c - i) (hA : i < l.length → ∀ b off, A = some ⟨b, off, none⟩ → A' = some ⟨b, off + i * 2, none⟩) : Ents w (.slice A' n c') (l.drop i) := by
  obtain ⟨A0, c0, he, hc, hl, hh⟩ := h
  simp only [Value.slice.injEq] at he
  obtain ⟨rfl, _, rfl⟩ := he
  subst hn hc'
  refine ⟨A', c - i, by rw [List.length_drop], by rw [List.length_drop]; omega, entC_len _, fun h0 => ?_⟩
  rw [List.length_drop] at h0
  obtain ⟨b, off, rfl, hb, hcell⟩ := hh (by omega)
  refine ⟨b, off + i * 2, hA (by omega) b off rfl, hb, fun j x hx => ?_⟩
  rw [flatMap_drop, List.getElem?_drop] at hx
  rw [Nat.add_assoc]
  exact hcell _ x hx
end Copyhold.Name
namespace Go.Proofs.Ytkepkbgebickiaa
open Go.RowKit Go.ChangeShapes Go.WideShapes Go.ChangeAt Copyhold Copyhold.Name
end Go.Proofs.Ytkepkbgebickiaa

set_option linter.unusedVariables false
namespace Copyhold.Name
def pieces : List UInt8 → List (List UInt8)
  | [] => [[]]
  | c :: l => if c = 47 then [] :: pieces l else match pieces l with
    | p :: r => (c :: p) :: r
    | [] => [[c]]
def counts (s : List UInt8) : Bool := !(s == []) && !(s == [46])
def namesP (l : List UInt8) : List (List UInt8) := (pieces l).filter counts
theorem pieces_one {l : List UInt8} (h : (47 : UInt8) ∉ l) : pieces l = [l] := by
  induction l with
  | nil => rfl
  | cons c l ih =>
    simp only [List.mem_cons, not_or] at h
    rw [pieces, if_neg (Ne.symm h.1), ih h.2]
theorem pieces_cut {a b : List UInt8} (h : (47 : UInt8) ∉ a) : pieces (a ++ 47 :: b) = a :: pieces b := by
  induction a with
  | nil => rw [List.nil_append, pieces, if_pos rfl]
  | cons c l ih =>
    simp only [List.mem_cons, not_or] at h
    rw [List.cons_append, pieces, if_neg (Ne.symm h.1), ih h.2]
theorem names_one {l : List UInt8} (h : (47 : UInt8) ∉ l) : namesP l = if counts l then [l] else [] := by
  rw [namesP, pieces_one h]
  simp only [List.filter_cons, List.filter_nil]
theorem names_cut {a b : List UInt8} (h : (47 : UInt8) ∉ a) : namesP (a ++ 47 :: b) = (if counts a then [a] else []) ++ namesP b := by
  rw [namesP, pieces_cut h, List.filter_cons]
  split <;> rfl
def splitD (p : List UInt8) : List (List UInt8) × Int :=
  if p.head? = some 47 then (if (namesP p).all okN then (namesP p, 0) else ([], 10)) else ([], 10)
def cutAt : List UInt8 → List UInt8 × List UInt8 × Bool
  | [] => ([], [], false)
  | c :: l => if c = 47 then ([], l, true) else (c :: (cutAt l).1, (cutAt l).2)
theorem cutAt_spec (l : List UInt8) : (47 : UInt8) ∉ (cutAt l).1 ∧ (if (cutAt l).2.2 then l = (cutAt l).1 ++ 47 :: (cutAt l).2.1 else l = (cutAt l).1 ∧ (cutAt l).2.1 = []) := by
  induction l with
  | nil => simp [cutAt]
  | cons c l ih =>
    unfold cutAt
    split
    · rename_i h
      simp [h]
    · rename_i h
      refine ⟨by simp [Ne.symm h, ih.1], ?_⟩
      have h2 := ih.2
      simp only
      split
      · rename_i ht
        rw [if_pos ht] at h2
        rw [List.cons_append, ← h2]
      · rename_i ht
        rw [if_neg ht] at h2
        exact ⟨by rw [← h2.1], h2.2⟩
theorem names_step (l : List UInt8) : namesP l = (if counts (cutAt l).1 then [(cutAt l).1] else []) ++ (if (cutAt l).2.2 then namesP (cutAt l).2.1 else []) := by
  have ⟨h1, h2⟩ := cutAt_spec l
  generalize (cutAt l).1 = a at *
  generalize (cutAt l).2.1 = b at *
  generalize (cutAt l).2.2 = t at *
  cases t
  · simp only [Bool.false_eq_true, if_false] at h2 ⊢
    rw [h2.1, names_one h1, List.append_nil]
  · simp only [if_true] at h2 ⊢
    rw [h2, names_cut h1]
theorem cutAt_len (l : List UInt8) : (cutAt l).1.length ≤ l.length ∧ ((cutAt l).2.2 = true → (cutAt l).2.1.length < l.length) := by
  have ⟨h1, h2⟩ := cutAt_spec l
  generalize (cutAt l).1 = a at *
  generalize (cutAt l).2.1 = b at *
  generalize (cutAt l).2.2 = t at *
  cases t
  · simp only [Bool.false_eq_true, if_false] at h2
    rw [h2.1]
    simp
  · simp only [if_true] at h2
    rw [h2]
    simp
    omega
theorem len_names (l : List UInt8) : (namesP l).length ≤ l.length + 1 := by
  have h : ∀ l : List UInt8, (pieces l).length ≤ l.length + 1 := by
    intro l
    induction l with
    | nil => simp [pieces]
    | cons c l ih =>
      unfold pieces
      split
      · simp; omega
      · split
        · rename_i p r h
          rw [h] at ih
          simp at ih ⊢; omega
        · simp
  exact Nat.le_trans (List.length_filter_le _ _) (h l)
theorem okN_len {s : List UInt8} (h : okN s = true) : s.length ≤ 32 ∧ s ≠ [] := by
  simp only [okN, Bool.and_eq_true, Bool.not_eq_true', decide_eq_true_eq, beq_eq_false_iff_ne] at h
  exact ⟨h.1.1.2, h.1.1.1.1.1⟩
end Copyhold.Name

set_option linter.unusedVariables false
namespace Go.Proofs.Ytkepkbgebickiaa
open Go.RowKit Copyhold Copyhold.Name
theorem run_indexByte (s : List UInt8) (c : UInt8) (W : World) : (callFunc 85 #[.string ⟨s.toArray⟩, .int .u8 (c.toNat : Int)]).run Try.prog W = .ok (.value (.int .i64 (Lib.indexByte s c))) W := by
  rw [run_callFunc_extern (e := Extern.BytealgIndexByte.indexByte) Try.func85 (by kernel_rfl) (by kernel_rfl) (by kernel_rfl) (by kernel_rfl), Lib.run_indexByteString]
  simp
theorem slite_IndexByte (s : List UInt8) (c : UInt8) (w : World) : Calls Try.prog 81 #[.string ⟨s.toArray⟩, .int .u8 (c.toNat : Int)] w fun e w' => e = .returned (.int .i64 (Lib.indexByte s c)) ∧ w = w' := by
  have hr := run_indexByte s c
  go_enter Try.func81, Try.ntmps81
  go_wp2_with fail
  go_ret
  exact ⟨rfl, rfl⟩
theorem slite_Index (s : List UInt8) (c : UInt8) (w : World) : Calls Try.prog 78 #[.string ⟨s.toArray⟩, .string ⟨#[c]⟩] w fun e w' => e = .returned (.int .i64 (Lib.indexByte s c)) ∧ w = w' := by
  by_cases he : s = [c]
  · subst he
    rw [show Lib.indexByte [c] c = 0 from by simp [Lib.indexByte]]
    set_option maxRecDepth 100000 in
    go_enter Try.func78, Try.ntmps78
    go_wp2_with fail
    go_ret
    exact ⟨rfl, rfl⟩
  · have hq : ([c] == s) = false := by simpa using Ne.symm he
    clear he
    set_option maxRecDepth 100000 in
    go_enter Try.func78, Try.ntmps78
    go_wp2_with fail
    refine (slite_IndexByte s c _).mono ?_
    rintro e w1 ⟨rfl, rfl⟩
    go_wp2_with fail
    go_ret
    exact ⟨rfl, rfl⟩
theorem strings_Index_one (s : List UInt8) (c : UInt8) (w : World) : Calls Try.prog 69 #[.string ⟨s.toArray⟩, .string ⟨#[c]⟩] w fun e w' => e = .returned (.int .i64 (Lib.indexByte s c)) ∧ w = w' := by
  go_enter Try.func69, Try.ntmps69
  go_wp2_with fail
  refine (slite_Index s c _).mono ?_
  rintro e w1 ⟨rfl, rfl⟩
  go_wp2_with fail
  go_ret
  exact ⟨rfl, rfl⟩
theorem indexByte_mem (s : List UInt8) (c : UInt8) : decide (0 ≤ Lib.indexByte s c) = s.contains c := by
  induction s with
  | nil => simp [Lib.indexByte]
  | cons b l ih =>
    have hg := Lib.indexByte_ge l c
    rw [Lib.indexByte, List.contains_cons, ← ih]
    by_cases hb : b = c
    · subst hb; simp
    · have h1 : (b == c) = false := by simpa using hb
      have h2 : (c == b) = false := by simpa using Ne.symm hb
      rw [h1, h2]
      by_cases h : Lib.indexByte l c = -1
      · rw [h]; simp
      · have h3 : (Lib.indexByte l c == -1) = false := by simpa using h
        rw [h3]
        simp
        omega
theorem strings_Contains_one (s : List UInt8) (c : UInt8) (w : World) : Calls Try.prog 55 #[.string ⟨s.toArray⟩, .string ⟨#[c]⟩] w fun e w' => e = .returned (.bool (s.contains c)) ∧ w = w' := by
  have hm := Lib.hid (indexByte_mem s c)
  have hge := Lib.indexByte_ge s c
  generalize hx : Lib.indexByte s c = x at *
  have HX := Lib.hid hx
  clear hx
  go_enter Try.func55, Try.ntmps55
  go_wp2_with fail
  refine (strings_Index_one s c _).mono ?_
  rintro e w1 ⟨rfl, rfl⟩
  rw [HX.out]
  go_wp2_with fail
  go_ret
  exact ⟨by rw [← hm.out]; rfl, rfl⟩
def checkD (s : List UInt8) : Int := if okN s then 0 else 10
set_option maxHeartbeats 1000000 in
theorem name_Check (s : List UInt8) (w : World) (hs : s.length ≤ 140737488351232) : Calls Try.prog 29 #[.string ⟨s.toArray⟩] w fun e w' => e = .returned (.int .i64 (checkD s)) ∧ w = w' := by
  by_cases h0 : s = []
  · subst h0
    go_enter Try.func29, Try.ntmps29
    go_wp2_with fail
    go_ret
    exact ⟨rfl, rfl⟩
  by_cases h1 : s = [46]
  · subst h1
    go_enter Try.func29, Try.ntmps29
    go_wp2_with fail
    go_ret
    exact ⟨rfl, rfl⟩
  by_cases h2 : s = [46, 46]
  · subst h2
    go_enter Try.func29, Try.ntmps29
    go_wp2_with fail
    go_ret
    exact ⟨rfl, rfl⟩
  have e0 : (s == []) = false := by simpa using h0
  have e1 : (s == [46]) = false := by simpa using h1
  have e2 : (s == [46, 46]) = false := by simpa using h2
  by_cases h3 : s.length ≤ 32
  · have hcd : checkD s = if !s.contains 47 && !s.contains 0 then 0 else 10 := by
      have q0 : (s == []) = false := by simpa using h0
      have q1 : (s == [46]) = false := by simpa using h1
      have q2 : (s == [46, 46]) = false := by simpa using h2
      simp [checkD, okN, h3, q0, q1, q2]
    rw [hcd]
    clear hcd h0 h1 h2
    cases h4 : s.contains 47
    · cases h5 : s.contains 0
      all_goals
        have H4 := Lib.hid h4
        have H5 := Lib.hid h5
        clear h4 h5
        go_enter Try.func29, Try.ntmps29
        go_wp2_with fail
        refine (strings_Contains_one s 47 _).mono ?_
        rintro e w1 ⟨rfl, rfl⟩
        rw [H4.out]
        go_wp2_with fail
        refine (strings_Contains_one s 0 _).mono ?_
        rintro e w1 ⟨rfl, rfl⟩
        rw [H5.out]
        go_wp2_with fail
        go_ret
        exact ⟨rfl, rfl⟩
    · have H4 := Lib.hid h4
      clear h4
      go_enter Try.func29, Try.ntmps29
      go_wp2_with fail
      refine (strings_Contains_one s 47 _).mono ?_
      rintro e w1 ⟨rfl, rfl⟩
      rw [H4.out]
      go_wp2_with fail
      go_ret
      exact ⟨rfl, rfl⟩
  · have hcd : checkD s = 10 := by
      have : decide (s.length ≤ 32) = false := by simpa using h3
      simp [checkD, okN, this]
    rw [hcd]
    clear hcd h0 h1 h2
    go_enter Try.func29, Try.ntmps29
    go_wp2_with fail
    go_ret
    exact ⟨rfl, rfl⟩
theorem less_eq : ∀ (x y : List UInt8), Op.bytesLess x y = decide (x < y)
  | [], [] => by simp [Op.bytesLess]
  | a :: x, [] => by simp [Op.bytesLess]
  | [], b :: y => by simp [Op.bytesLess]
  | a :: x, b :: y => by
    rw [Op.bytesLess, less_eq x y, Bool.eq_iff_iff]
    simp only [Bool.or_eq_true, Bool.and_eq_true, decide_eq_true_eq, beq_iff_eq, List.cons_lt_cons_iff]
theorem gete (l : List Name.Ent) (i : Nat) (h : i < l.length) : l.getD i ([], 0) = l[i] := by simp [List.getD, h]
end Go.Proofs.Ytkepkbgebickiaa
