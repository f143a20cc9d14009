/- Layer 7, without a program: what is taken of a text. -/
import Derived.Test.YtoinafcjkbdjnaaNodeText
import Derived.Test.YtoinafcjkbdjnaaParse
set_option linter.unusedVariables false
namespace Go.Proofs.Ytoinafcjkbdjnaa
open Go.RowKit Copyhold Copyhold.Name

theorem unfold_fold (z : Int) : unfoldN (foldN z) = z := by
  unfold unfoldN foldN
  split <;> split <;> omega
theorem fold_unfold (n : Int) (h : 0 ≤ n) : foldN (unfoldN n) = n := by
  unfold unfoldN foldN
  split <;> split <;> omega
theorem fold_bd (z : Int) (h1 : -9223372036854775808 ≤ z) (h2 : z ≤ 9223372036854775807) : 0 ≤ foldN z ∧ foldN z ≤ 18446744073709551615 := by
  unfold foldN; split <;> omega
theorem unfold_bd (n : Int) (h1 : 0 ≤ n) (h2 : n ≤ 18446744073709551615) : -9223372036854775808 ≤ unfoldN n ∧ unfoldN n ≤ 9223372036854775807 := by
  unfold unfoldN; split <;> omega

/-- a number with a sign, taken -/
def takeWhole (s : List UInt8) : Int × List UInt8 × Int := (unfoldN ((takeNum s).1 : Int), (takeNum s).2.1, (takeNum s).2.2)

theorem takeWhole_bd (s : List UInt8) : (-9223372036854775808 ≤ (takeWhole s).1 ∧ (takeWhole s).1 ≤ 9223372036854775807) ∧ (takeWhole s).2.1.length ≤ s.length ∧ 0 ≤ (takeWhole s).2.2 ∧ (takeWhole s).2.2 ≤ 3 := by
  obtain ⟨h1, h2, h3⟩ := takeNum_bd s
  exact ⟨unfold_bd _ (by omega) (by omega), h2, h3⟩
theorem takeWhole_parses (z : Int) (h1 : -9223372036854775808 ≤ z) (h2 : z ≤ 9223372036854775807) : Parses takeWhole (wholeB z) z := by
  obtain ⟨f1, f2⟩ := fold_bd z h1 h2
  have h := takeNum_parses (foldN z).toNat (by omega)
  refine ⟨fun more => ?_, fun c hc => ?_⟩
  · unfold takeWhole wholeB
    rw [h.1, Int.toNat_of_nonneg f1, unfold_fold]
  · have := h.2 c hc
    unfold takeWhole wholeB
    simp only
    rw [this]
theorem takeWhole_laid (s : List UInt8) (h : (takeWhole s).2.2 = 0) : s = wholeB (takeWhole s).1 ++ (takeWhole s).2.1 := by
  have := takeNum_laid s h
  unfold takeWhole wholeB
  simp only
  rw [fold_unfold _ (by omega), Int.toNat_natCast]
  exact this

/-- so many entries, behind those that were taken -/
def takeEs : Nat → List Ent → List UInt8 → List Ent × List UInt8 × Int
  | 0, acc, s => (acc, s, 0)
  | m + 1, acc, s => thenP [] (takeText s 32) fun nm s => thenP [] (takeWhole s) fun k s => takeEs m (acc ++ [(nm, k)]) s

/-- an entry that may be taken -/
def EntT (x : Ent) : Prop := x.1.length ≤ 32 ∧ -9223372036854775808 ≤ x.2 ∧ x.2 ≤ 9223372036854775807

theorem takeEs_parses : ∀ (l acc : List Ent), (∀ x ∈ l, EntT x) → Parses (takeEs l.length acc) (entsP l).flatten (acc ++ l)
  | [], acc, _ => by rw [List.append_nil]; exact Parses.nil fun s => rfl
  | x :: l, acc, h => by
    obtain ⟨h1, h2, h3⟩ := h x List.mem_cons_self
    have ih := takeEs_parses l (acc ++ [x]) (fun y hy => h y (List.mem_cons_of_mem _ hy))
    have := (takeText_parses x.1 32 (by omega) (by omega)).andThen (bad := ([] : List Ent)) (f := fun nm s => thenP [] (takeWhole s) fun k s => takeEs l.length (acc ++ [(nm, k)]) s)
      (((takeWhole_parses x.2 h2 h3).andThen (bad := ([] : List Ent)) (f := fun k s => takeEs l.length (acc ++ [(x.1, k)]) s) ih))
    rw [List.append_assoc] at this
    refine this.same (fun s => rfl) ?_
    rw [entsP, List.flatMap_cons, List.flatten_append, ← entsP]
    simp [List.append_assoc]

theorem takeEs_laid : ∀ (m : Nat) (acc : List Ent) (s : List UInt8), (takeEs m acc s).2.2 = 0 → ∃ l : List Ent, l.length = m ∧ (takeEs m acc s).1 = acc ++ l ∧ s = (entsP l).flatten ++ (takeEs m acc s).2.1 ∧ ∀ x ∈ l, EntT x
  | 0, acc, s, _ => ⟨[], rfl, by simp [takeEs], by simp [takeEs, entsP], fun x hx => (by cases hx)⟩
  | m + 1, acc, s, h => by
    rw [takeEs] at h ⊢
    have h1 := thenP_zero h
    rw [thenP_ok h1] at h ⊢
    have h2 := thenP_zero h
    rw [thenP_ok h2] at h ⊢
    obtain ⟨l, e1, e2, e3, e4⟩ := takeEs_laid m _ _ h
    obtain ⟨t1, t2⟩ := takeText_laid s 32 h1
    have w1 := takeWhole_laid _ h2
    have w2 := (takeWhole_bd (takeText s 32).2.1).1
    refine ⟨((takeText s 32).1, (takeWhole (takeText s 32).2.1).1) :: l, by simp [e1], by rw [e2, List.append_assoc]; rfl, ?_, fun x hx => ?_⟩
    · rw [entsP, List.flatMap_cons, List.flatten_append, ← entsP]
      simp only [List.flatten_cons, List.flatten_nil, List.append_nil, List.append_assoc]
      rw [← e3, ← w1]
      exact t1
    · rcases List.mem_cons.1 hx with rfl | hx
      · exact ⟨by simp only; omega, w2⟩
      · exact e4 x hx

theorem takeEs_err : ∀ (m : Nat) (acc : List Ent) (s : List UInt8), 0 ≤ (takeEs m acc s).2.2 ∧ (takeEs m acc s).2.2 ≤ 5 ∧ (takeEs m acc s).2.1.length ≤ s.length
  | 0, acc, s => by simp [takeEs]
  | m + 1, acc, s => by
    rw [takeEs]
    have b1 := takeText_bd s 32
    by_cases h1 : (takeText s 32).2.2 = 0
    · rw [thenP_ok h1]
      have b2 := takeWhole_bd (takeText s 32).2.1
      by_cases h2 : (takeWhole (takeText s 32).2.1).2.2 = 0
      · rw [thenP_ok h2]
        have := takeEs_err m (acc ++ [((takeText s 32).1, (takeWhole (takeText s 32).2.1).1)]) (takeWhole (takeText s 32).2.1).2.1
        omega
      · rw [thenP_no h2]
        simp only [List.length_nil]
        omega
    · rw [thenP_no h1]
      simp only [List.length_nil]
      omega

def nd0 : Nd := ⟨0, 0, 0, [], []⟩

/-- a node whose parts are there: it must be right -/
def endN (n : Nd) (s : List UInt8) : Nd × List UInt8 × Int := if rightN n = true then (n, s, 0) else (nd0, [], 3)
/-- a node, taken -/
def takeNode (s : List UInt8) : Nd × List UInt8 × Int :=
  thenP nd0 (takeWhole s) fun ino s => thenP nd0 (takeWhole s) fun kind s => thenP nd0 (takeWhole s) fun links s => thenP nd0 (takeText s 4096) fun text s =>
  thenP nd0 (takeCount s 256) fun m s => thenP nd0 (takeEs m [] s) fun l s => endN ⟨ino, kind, links, text, l⟩ s

theorem okN_len32 {s : List UInt8} (h : okN s = true) : s.length ≤ 32 := (okN_len h).1

/-- what a right node's parts are -/
theorem right_parts {n : Nd} (h : rightN n = true) (ho : OkN n) : n.text.length ≤ 4096 ∧ n.l.length ≤ 256 ∧ (∀ x ∈ n.l, EntT x) := by
  obtain ⟨_, _, _, _, o8, _⟩ := ho
  simp only [rightN, Bool.and_eq_true, decide_eq_true_eq] at h
  have h2 := h.2
  split at h2
  · simp only [Bool.and_eq_true, beq_iff_eq] at h2
    obtain ⟨e1, e2⟩ := h2
    rw [rightE_iff] at e2
    refine ⟨by rw [e1]; simp, e2.1, fun x hx => ?_⟩
    have := e2.2.1 x hx
    simp only [okE, Bool.and_eq_true] at this
    exact ⟨okN_len32 this.1, (o8 x hx).2⟩
  · split at h2
    · simp only [Bool.and_eq_true, beq_iff_eq, decide_eq_true_eq] at h2
      rw [h2.2]
      exact ⟨h2.1, by simp, fun x hx => (by cases hx)⟩
    · cases h2

theorem takeNode_parses (n : Nd) (h : rightN n = true) (ho : OkN n) : Parses takeNode (nodeB n) n := by
  obtain ⟨r1, r2, r3⟩ := right_parts h ho
  obtain ⟨⟨o1, o2⟩, ⟨o3, o4⟩, ⟨o5, o6⟩, o7, o8, o9⟩ := ho
  obtain ⟨ino, kind, links, text, l⟩ := n
  simp only at *
  have hend : Parses (endN ⟨ino, kind, links, text, l⟩) [] ⟨ino, kind, links, text, l⟩ := Parses.nil fun s => by unfold endN; rw [if_pos h]
  have p6 := (takeEs_parses l [] r3).andThen (bad := nd0) (f := fun l s => endN ⟨ino, kind, links, text, l⟩ s) hend
  have p5 := (takeCount_parses l.length 256 (by omega) (by omega)).andThen (bad := nd0) (f := fun m s => thenP nd0 (takeEs m [] s) fun l s => endN ⟨ino, kind, links, text, l⟩ s) p6
  have p4 := (takeText_parses text 4096 (by omega) (by omega)).andThen (bad := nd0) (f := fun text s => thenP nd0 (takeCount s 256) fun m s => thenP nd0 (takeEs m [] s) fun l s => endN ⟨ino, kind, links, text, l⟩ s) p5
  have p3 := (takeWhole_parses links o5 o6).andThen (bad := nd0) (f := fun links s => thenP nd0 (takeText s 4096) fun text s => thenP nd0 (takeCount s 256) fun m s => thenP nd0 (takeEs m [] s) fun l s => endN ⟨ino, kind, links, text, l⟩ s) p4
  have p2 := (takeWhole_parses kind o3 o4).andThen (bad := nd0) (f := fun kind s => thenP nd0 (takeWhole s) fun links s => thenP nd0 (takeText s 4096) fun text s => thenP nd0 (takeCount s 256) fun m s => thenP nd0 (takeEs m [] s) fun l s => endN ⟨ino, kind, links, text, l⟩ s) p3
  have p1 := (takeWhole_parses ino o1 o2).andThen (bad := nd0) (f := fun ino s => thenP nd0 (takeWhole s) fun kind s => thenP nd0 (takeWhole s) fun links s => thenP nd0 (takeText s 4096) fun text s => thenP nd0 (takeCount s 256) fun m s => thenP nd0 (takeEs m [] s) fun l s => endN ⟨ino, kind, links, text, l⟩ s) p2
  refine p1.same (fun s => rfl) ?_
  unfold nodeB nodeP headP
  simp [List.append_assoc]

theorem takeNode_laid (s : List UInt8) (h : (takeNode s).2.2 = 0) : s = nodeB (takeNode s).1 ++ (takeNode s).2.1 ∧ rightN (takeNode s).1 = true ∧ (takeNode s).1.l.length ≤ 256 ∧ (∀ x ∈ (takeNode s).1.l, EntT x) ∧ (takeNode s).1.text.length ≤ 4096 := by
  unfold takeNode at h ⊢
  have h1 := thenP_zero h
  rw [thenP_ok h1] at h ⊢
  have h2 := thenP_zero h
  rw [thenP_ok h2] at h ⊢
  have h3 := thenP_zero h
  rw [thenP_ok h3] at h ⊢
  have h4 := thenP_zero h
  rw [thenP_ok h4] at h ⊢
  have h5 := thenP_zero h
  rw [thenP_ok h5] at h ⊢
  have h6 := thenP_zero h
  rw [thenP_ok h6] at h ⊢
  have e1 := takeWhole_laid _ h1
  have e2 := takeWhole_laid _ h2
  have e3 := takeWhole_laid _ h3
  have e4 := takeText_laid _ _ h4
  have e5 := takeCount_laid _ _ h5
  obtain ⟨l, k1, k2, k3, k4⟩ := takeEs_laid _ _ _ h6
  rw [List.nil_append] at k2
  unfold endN at h ⊢
  split at h
  · rename_i hr
    rw [if_pos hr]
    simp only
    refine ⟨?_, hr, ?_, ?_, ?_⟩
    · unfold nodeB nodeP headP
      simp only [List.flatten_append, List.flatten_cons, List.flatten_nil, List.append_nil, List.append_assoc]
      rw [k2, k1, ← k3, ← e5.1, ← e4.1, ← e3, ← e2]
      exact e1
    · rw [k2, k1]; have := e5.2.1; omega
    · rw [k2]; exact k4
    · have := e4.2; omega
  · cases h

theorem takeNode_bd (s : List UInt8) : 0 ≤ (takeNode s).2.2 ∧ (takeNode s).2.2 ≤ 5 ∧ (takeNode s).2.1.length ≤ s.length := by
  unfold takeNode
  have b1 := takeWhole_bd s
  by_cases h1 : (takeWhole s).2.2 = 0
  · rw [thenP_ok h1]
    generalize (takeWhole s).2.1 = s1 at *
    have b2 := takeWhole_bd s1
    by_cases h2 : (takeWhole s1).2.2 = 0
    · rw [thenP_ok h2]
      generalize (takeWhole s1).2.1 = s2 at *
      have b3 := takeWhole_bd s2
      by_cases h3 : (takeWhole s2).2.2 = 0
      · rw [thenP_ok h3]
        generalize (takeWhole s2).2.1 = s3 at *
        have b4 := takeText_bd s3 4096
        by_cases h4 : (takeText s3 4096).2.2 = 0
        · rw [thenP_ok h4]
          generalize (takeText s3 4096).2.1 = s4 at *
          have b5 := takeCount_bd s4 256
          by_cases h5 : (takeCount s4 256).2.2 = 0
          · rw [thenP_ok h5]
            generalize (takeCount s4 256).2.1 = s5 at *
            have b6 := takeEs_err (takeCount s4 256).1 [] s5
            by_cases h6 : (takeEs (takeCount s4 256).1 [] s5).2.2 = 0
            · rw [thenP_ok h6]
              unfold endN
              split
              · simp only; omega
              · simp
            · rw [thenP_no h6]; simp only [List.length_nil]; omega
          · rw [thenP_no h5]; simp only [List.length_nil]; omega
        · rw [thenP_no h4]; simp only [List.length_nil]; omega
      · rw [thenP_no h3]; simp only [List.length_nil]; omega
    · rw [thenP_no h2]; simp only [List.length_nil]; omega
  · rw [thenP_no h1]; simp only [List.length_nil]; omega

theorem thenP_bad {α β : Type} {bad : β} {r : α × List UInt8 × Int} {f : α → List UInt8 → β × List UInt8 × Int} (hf : ∀ a s, (f a s).2.2 ≠ 0 → (f a s).1 = bad) (h : (thenP bad r f).2.2 ≠ 0) : (thenP bad r f).1 = bad := by
  unfold thenP at h ⊢
  split
  · rename_i h0
    rw [if_pos h0] at h
    exact hf _ _ h
  · rfl

/-- what is taken is a node as a program may have it -/
theorem takeNode_ok (s : List UInt8) : OkN (takeNode s).1 := by
  have hz : OkN nd0 := ⟨⟨by decide, by decide⟩, ⟨by decide, by decide⟩, ⟨by decide, by decide⟩, by simp [nd0], fun x hx => (by cases hx), by simp [nd0]⟩
  by_cases h : (takeNode s).2.2 = 0
  · obtain ⟨_, _, h3, h4, h5⟩ := takeNode_laid s h
    unfold takeNode at h h3 h4 h5 ⊢
    have h1 := thenP_zero h
    rw [thenP_ok h1] at h h3 h4 h5 ⊢
    have h2 := thenP_zero h
    rw [thenP_ok h2] at h h3 h4 h5 ⊢
    have h6 := thenP_zero h
    rw [thenP_ok h6] at h h3 h4 h5 ⊢
    have h7 := thenP_zero h
    rw [thenP_ok h7] at h h3 h4 h5 ⊢
    have h8 := thenP_zero h
    rw [thenP_ok h8] at h h3 h4 h5 ⊢
    have h9 := thenP_zero h
    rw [thenP_ok h9] at h h3 h4 h5 ⊢
    unfold endN at h h3 h4 h5 ⊢
    split at h
    · rename_i hr
      rw [if_pos hr] at h3 h4 h5 ⊢
      simp only at h3 h4 h5
      exact ⟨(takeWhole_bd _).1, (takeWhole_bd _).1, (takeWhole_bd _).1, by simp only; omega, fun x hx => ⟨by have := (h4 x hx).1; omega, (h4 x hx).2⟩, by simp only; omega⟩
    · cases h
  · have : (takeNode s).1 = nd0 := by
      refine thenP_bad (fun _ _ => thenP_bad (fun _ _ => thenP_bad (fun _ _ => thenP_bad (fun _ _ => thenP_bad (fun _ _ => thenP_bad (fun _ _ hh => ?_)))))) h
      unfold endN at hh ⊢
      split
      · rename_i hr
        rw [if_pos hr] at hh
        exact absurd rfl hh
      · rfl
    rw [this]
    exact hz

/-- two right nodes have one text just if they are the same -/
theorem nodeB_inj {a b : Nd} (ha : rightN a = true) (hb : rightN b = true) (oa : OkN a) (ob : OkN b) (h : nodeB a = nodeB b) : a = b := by
  have h1 := (takeNode_parses a ha oa).1 []
  have h2 := (takeNode_parses b hb ob).1 []
  rw [h, h2] at h1
  exact (Prod.mk.inj h1).1.symm
end Go.Proofs.Ytoinafcjkbdjnaa
