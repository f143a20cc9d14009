/- Layer 15, without a program: calls, messages and answers as bytes; what is taken of a text. -/
import Derived.Test.YtpojhcpkmpbflaaParse
import Derived.Test.YtpojhcpkmpbflaaOctFold
import Derived.Test.YtpojhcpkmpbflaaPure02
set_option linter.unusedVariables false
namespace Go.Proofs.Ytpojhcpkmpbflaa
open Copyhold

def wholeB (z : Int) : List UInt8 := numB (foldN z).toNat
theorem wholeB_len (z : Int) (h1 : -9223372036854775808 ≤ z) (h2 : z ≤ 9223372036854775807) : (wholeB z).length ≤ 10 := numB_len10 _ (by unfold foldN; split <;> omega)
theorem unfold_fold (z : Int) : unfoldN (foldN z) = z := by
  unfold unfoldN foldN
  split <;> split <;> omega
theorem fold_unfold (n : Int) (h : 0 ≤ n) : foldN (unfoldN n) = n := by
  unfold unfoldN foldN
  split <;> split <;> omega
theorem fold_bd (z : Int) (h1 : -9223372036854775808 ≤ z) (h2 : z ≤ 9223372036854775807) : 0 ≤ foldN z ∧ foldN z ≤ 18446744073709551615 := by
  unfold foldN; split <;> omega
theorem unfold_bd (n : Int) (h1 : 0 ≤ n) (h2 : n ≤ 18446744073709551615) : -9223372036854775808 ≤ unfoldN n ∧ unfoldN n ≤ 9223372036854775807 := by
  unfold unfoldN; split <;> omega
/-- a number of 64 bits with a sign -/
def I64 (z : Int) : Prop := -9223372036854775808 ≤ z ∧ z ≤ 9223372036854775807

/-- a number with a sign, taken -/
def takeWhole (s : List UInt8) : Int × List UInt8 × Int := (unfoldN ((takeNum s).1 : Int), (takeNum s).2.1, (takeNum s).2.2)
theorem takeWhole_bd (s : List UInt8) : I64 (takeWhole s).1 ∧ (takeWhole s).2.1.length ≤ s.length ∧ 0 ≤ (takeWhole s).2.2 ∧ (takeWhole s).2.2 ≤ 3 := by
  obtain ⟨h1, h2, h3⟩ := takeNum_bd s
  exact ⟨unfold_bd _ (by omega) (by omega), h2, h3⟩
theorem takeWhole_parses (z : Int) (h : I64 z) : Parses takeWhole (wholeB z) z := by
  obtain ⟨f1, f2⟩ := fold_bd z h.1 h.2
  have h := takeNum_parses (foldN z).toNat (by omega)
  refine ⟨fun more => ?_, fun c hc => ?_⟩
  · unfold takeWhole wholeB
    rw [h.1, Int.toNat_of_nonneg f1, unfold_fold]
  · have := h.2 c hc
    unfold takeWhole wholeB
    simp only
    rw [this]
theorem takeWhole_laid (s : List UInt8) (h : (takeWhole s).2.2 = 0) : s = wholeB (takeWhole s).1 ++ (takeWhole s).2.1 := by
  have := takeNum_laid s h
  unfold takeWhole wholeB
  simp only
  rw [fold_unfold _ (by omega), Int.toNat_natCast]
  exact this

/-- a part that is taken where no error was told ahead -/
def stP {α : Type} (bad : α) (t : List UInt8 → α × List UInt8 × Int) (s : List UInt8) (e : Int) : α × List UInt8 × Int := if e = 0 then t s else (bad, s, e)
theorem stP_zero {α : Type} (bad : α) (t : List UInt8 → α × List UInt8 × Int) (s : List UInt8) : stP bad t s 0 = t s := if_pos rfl
theorem stP_bad {α : Type} {bad : α} {t : List UInt8 → α × List UInt8 × Int} {s : List UInt8} {e : Int} (h : e ≠ 0) : stP bad t s e = (bad, s, e) := if_neg h
theorem stP_ok {α : Type} {bad : α} {t : List UInt8 → α × List UInt8 × Int} {s : List UInt8} {e : Int} (h : (stP bad t s e).2.2 = 0) : e = 0 := by
  unfold stP at h
  split at h
  · assumption
  · exact h

abbrev numSt (s : List UInt8) (e : Int) : Int × List UInt8 × Int := stP 0 takeWhole s e
abbrev textSt (s : List UInt8) (e : Int) : List UInt8 × List UInt8 × Int := stP [] (fun s => takeText s 4096) s e
abbrev namesSt (s : List UInt8) (e : Int) : List (List UInt8) × List UInt8 × Int := stP [] (fun s => takeList s 256 32) s e

theorem numSt_bd (s : List UInt8) (e : Int) : I64 (numSt s e).1 ∧ (numSt s e).2.1.length ≤ s.length ∧ ((0 ≤ e ∧ e ≤ 5) → 0 ≤ (numSt s e).2.2 ∧ (numSt s e).2.2 ≤ 5) := by
  by_cases h : e = 0
  · subst h
    have := takeWhole_bd s
    rw [numSt, stP_zero]
    exact ⟨this.1, this.2.1, fun _ => ⟨this.2.2.1, by omega⟩⟩
  · rw [numSt, stP_bad h]
    exact ⟨⟨by simp, by simp⟩, Nat.le_refl _, fun x => x⟩
theorem textSt_bd (s : List UInt8) (e : Int) : (textSt s e).1.length ≤ s.length ∧ (textSt s e).2.1.length ≤ s.length ∧ ((0 ≤ e ∧ e ≤ 5) → 0 ≤ (textSt s e).2.2 ∧ (textSt s e).2.2 ≤ 5) := by
  by_cases h : e = 0
  · subst h
    have := takeText_bd s 4096
    rw [textSt, stP_zero]
    exact ⟨this.1, this.2.1, fun _ => this.2.2⟩
  · rw [textSt, stP_bad h]
    exact ⟨by simp, Nat.le_refl _, fun x => x⟩
theorem numSt_laid {s : List UInt8} {e : Int} (h : (numSt s e).2.2 = 0) : e = 0 ∧ s = wholeB (numSt s e).1 ++ (numSt s e).2.1 := by
  obtain rfl := stP_ok h
  rw [numSt, stP_zero] at h ⊢
  exact ⟨rfl, takeWhole_laid s h⟩
theorem textSt_laid {s : List UInt8} {e : Int} (h : (textSt s e).2.2 = 0) : e = 0 ∧ s = textB (textSt s e).1 ++ (textSt s e).2.1 ∧ (textSt s e).1.length ≤ 4096 := by
  obtain rfl := stP_ok h
  rw [textSt, stP_zero] at h ⊢
  have := takeText_laid s 4096 h
  exact ⟨rfl, this.1, by omega⟩
theorem namesSt_laid {s : List UInt8} {e : Int} (h : (namesSt s e).2.2 = 0) : e = 0 ∧ s = listB (namesSt s e).1 ++ (namesSt s e).2.1 := by
  obtain rfl := stP_ok h
  rw [namesSt, stP_zero] at h ⊢
  exact ⟨rfl, takeList_laid s 256 32 h⟩
theorem numSt_lay (z : Int) (h : I64 z) (more : List UInt8) : numSt (wholeB z ++ more) 0 = (z, more, 0) := by
  rw [numSt, stP_zero]; exact (takeWhole_parses z h).1 more
theorem textSt_lay (l : List UInt8) (h : l.length ≤ 4096) (more : List UInt8) : textSt (textB l ++ more) 0 = (l, more, 0) := by
  rw [textSt, stP_zero]; exact (takeText_parses l 4096 (by omega) (by omega)).1 more
theorem namesSt_lay (ls : List (List UInt8)) (h1 : ls.length ≤ 256) (h2 : ∀ l ∈ ls, l.length ≤ 32) (more : List UInt8) : namesSt (listB ls ++ more) 0 = (ls, more, 0) := by
  rw [namesSt, stP_zero]
  have := takeList_listB ls 256 32 more (by omega) (by decide) (fun t ht => by have := h2 t ht; omega)
  rw [this, if_neg (by omega)]

/-- a call -/
structure CallW where
  kind : Int
  ino : Int
  dest : Int
  pos : Int
  many : Int
  name : List UInt8
  name2 : List UInt8
  text : List UInt8
def call0 : CallW := ⟨0, 0, 0, 0, 0, [], [], []⟩
/-- the numbers of a call fit, and its texts are no longer than a text may be here -/
def OkC (m : Nat) (c : CallW) : Prop := (I64 c.kind ∧ I64 c.ino ∧ I64 c.dest ∧ I64 c.pos ∧ I64 c.many) ∧ c.name.length ≤ m ∧ c.name2.length ≤ m ∧ c.text.length ≤ m

def numsB (l : List Int) : List UInt8 := (l.map wholeB).flatten
theorem numsB_len (l : List Int) (h : ∀ z ∈ l, I64 z) : (numsB l).length ≤ 10 * l.length := by
  induction l with
  | nil => simp [numsB]
  | cons z l ih =>
    have h1 := wholeB_len z (h z List.mem_cons_self).1 (h z List.mem_cons_self).2
    have h2 := ih (fun y hy => h y (List.mem_cons_of_mem _ hy))
    unfold numsB at h2 ⊢
    rw [List.map_cons, List.flatten_cons, List.length_append, List.length_cons]
    omega
def callB (c : CallW) : List UInt8 := numsB [c.kind, c.ino, c.dest, c.pos, c.many] ++ textB c.name ++ textB c.name2 ++ textB c.text
theorem callB_eq (c : CallW) (more : List UInt8) : callB c ++ more = wholeB c.kind ++ (wholeB c.ino ++ (wholeB c.dest ++ (wholeB c.pos ++ (wholeB c.many ++ (textB c.name ++ (textB c.name2 ++ (textB c.text ++ more))))))) := by
  simp [callB, numsB, List.append_assoc]
theorem callB_len (m : Nat) (c : CallW) (h : OkC m c) (hm : m ≤ 1000000000) : (callB c).length ≤ 100 + 3 * m := by
  obtain ⟨⟨h1, h2, h3, h4, h5⟩, h6, h7, h8⟩ := h
  have a := numsB_len [c.kind, c.ino, c.dest, c.pos, c.many] (by intro z hz; simp at hz; rcases hz with rfl | rfl | rfl | rfl | rfl <;> assumption)
  have b := textB_len c.name (by omega)
  have d := textB_len c.name2 (by omega)
  have e := textB_len c.text (by omega)
  unfold callB
  simp only [List.length_append, List.length_cons, List.length_nil] at a ⊢
  omega

/-- a call that is taken, part by part -/
structure CallT where
  a : Int × List UInt8 × Int
  b : Int × List UInt8 × Int
  c : Int × List UInt8 × Int
  d : Int × List UInt8 × Int
  e : Int × List UInt8 × Int
  f : List UInt8 × List UInt8 × Int
  g : List UInt8 × List UInt8 × Int
  h : List UInt8 × List UInt8 × Int
def callT (s : List UInt8) (er : Int) : CallT :=
  let a := numSt s er
  let b := numSt a.2.1 a.2.2
  let c := numSt b.2.1 b.2.2
  let d := numSt c.2.1 c.2.2
  let e := numSt d.2.1 d.2.2
  let f := textSt e.2.1 e.2.2
  let g := textSt f.2.1 f.2.2
  ⟨a, b, c, d, e, f, g, textSt g.2.1 g.2.2⟩
def CallT.out (t : CallT) : CallW × List UInt8 × Int := (⟨t.a.1, t.b.1, t.c.1, t.d.1, t.e.1, t.f.1, t.g.1, t.h.1⟩, t.h.2.1, t.h.2.2)
def callSt (s : List UInt8) (e : Int) : CallW × List UInt8 × Int := (callT s e).out

theorem callT_bd (s : List UInt8) (er : Int) : ((callT s er).a.2.1.length ≤ s.length ∧ (callT s er).b.2.1.length ≤ s.length ∧ (callT s er).c.2.1.length ≤ s.length ∧ (callT s er).d.2.1.length ≤ s.length ∧ (callT s er).e.2.1.length ≤ s.length ∧ (callT s er).f.2.1.length ≤ s.length ∧ (callT s er).g.2.1.length ≤ s.length ∧ (callT s er).h.2.1.length ≤ s.length) ∧
    OkC s.length (callSt s er).1 ∧ ((0 ≤ er ∧ er ≤ 5) → 0 ≤ (callSt s er).2.2 ∧ (callSt s er).2.2 ≤ 5) := by
  unfold callSt CallT.out callT
  dsimp only
  have h1 := numSt_bd s er
  generalize numSt s er = a at *
  have h2 := numSt_bd a.2.1 a.2.2
  generalize numSt a.2.1 a.2.2 = b at *
  have h3 := numSt_bd b.2.1 b.2.2
  generalize numSt b.2.1 b.2.2 = c at *
  have h4 := numSt_bd c.2.1 c.2.2
  generalize numSt c.2.1 c.2.2 = d at *
  have h5 := numSt_bd d.2.1 d.2.2
  generalize numSt d.2.1 d.2.2 = e at *
  have h6 := textSt_bd e.2.1 e.2.2
  generalize textSt e.2.1 e.2.2 = f at *
  have h7 := textSt_bd f.2.1 f.2.2
  generalize textSt f.2.1 f.2.2 = g at *
  have h8 := textSt_bd g.2.1 g.2.2
  generalize textSt g.2.1 g.2.2 = h at *
  refine ⟨⟨by omega, by omega, by omega, by omega, by omega, by omega, by omega, by omega⟩, ⟨⟨h1.1, h2.1, h3.1, h4.1, h5.1⟩, by dsimp only; omega, by dsimp only; omega, by dsimp only; omega⟩, fun hh => h8.2.2 (h7.2.2 (h6.2.2 (h5.2.2 (h4.2.2 (h3.2.2 (h2.2.2 (h1.2.2 hh)))))))⟩
theorem callSt_laid {s : List UInt8} {er : Int} (hz : (callSt s er).2.2 = 0) : er = 0 ∧ s = callB (callSt s er).1 ++ (callSt s er).2.1 ∧ OkC 4096 (callSt s er).1 := by
  have hbd := (callT_bd s er).2.1
  rw [callB_eq]
  unfold callSt CallT.out callT at hz hbd ⊢
  dsimp only at hz hbd ⊢
  obtain ⟨z8, l8, m8⟩ := textSt_laid hz
  obtain ⟨z7, l7, m7⟩ := textSt_laid z8
  obtain ⟨z6, l6, m6⟩ := textSt_laid z7
  obtain ⟨z5, l5⟩ := numSt_laid z6
  obtain ⟨z4, l4⟩ := numSt_laid z5
  obtain ⟨z3, l3⟩ := numSt_laid z4
  obtain ⟨z2, l2⟩ := numSt_laid z3
  obtain ⟨z1, l1⟩ := numSt_laid z2
  refine ⟨z1, ?_, ⟨hbd.1, m6, m7, m8⟩⟩
  rw [← l8, ← l7, ← l6, ← l5, ← l4, ← l3, ← l2]
  exact l1
theorem callSt_lay (c : CallW) (h : OkC 4096 c) (more : List UInt8) : callSt (callB c ++ more) 0 = (c, more, 0) := by
  obtain ⟨⟨h1, h2, h3, h4, h5⟩, h6, h7, h8⟩ := h
  rw [callB_eq]
  unfold callSt CallT.out callT
  dsimp only
  rw [numSt_lay _ h1, numSt_lay _ h2, numSt_lay _ h3, numSt_lay _ h4, numSt_lay _ h5, textSt_lay _ h6, textSt_lay _ h7, textSt_lay _ h8]

/-- what wire.TakeCall makes of a text -/
def takeCall (s : List UInt8) : CallW × List UInt8 × Int := if (callSt s 0).2.2 = 0 then callSt s 0 else (call0, [], (callSt s 0).2.2)
theorem takeCall_chain (s : List UInt8) : takeCall s = thenP call0 (takeWhole s) fun a s => thenP call0 (takeWhole s) fun b s => thenP call0 (takeWhole s) fun c s => thenP call0 (takeWhole s) fun d s => thenP call0 (takeWhole s) fun e s =>
    thenP call0 (takeText s 4096) fun f s => thenP call0 (takeText s 4096) fun g s => thenP call0 (takeText s 4096) fun h s => (⟨a, b, c, d, e, f, g, h⟩, s, 0) := by
  unfold takeCall callSt CallT.out callT
  dsimp only
  simp only [numSt, textSt, stP_zero]
  by_cases h1 : (takeWhole s).2.2 = 0
  · rw [thenP_ok h1, h1]
    simp only [stP_zero]
    generalize takeWhole s = a
    by_cases h2 : (takeWhole a.2.1).2.2 = 0
    · rw [thenP_ok h2, h2]
      simp only [stP_zero]
      generalize takeWhole a.2.1 = b
      by_cases h3 : (takeWhole b.2.1).2.2 = 0
      · rw [thenP_ok h3, h3]
        simp only [stP_zero]
        generalize takeWhole b.2.1 = c
        by_cases h4 : (takeWhole c.2.1).2.2 = 0
        · rw [thenP_ok h4, h4]
          simp only [stP_zero]
          generalize takeWhole c.2.1 = d
          by_cases h5 : (takeWhole d.2.1).2.2 = 0
          · rw [thenP_ok h5, h5]
            simp only [stP_zero]
            generalize takeWhole d.2.1 = e
            by_cases h6 : (takeText e.2.1 4096).2.2 = 0
            · rw [thenP_ok h6, h6]
              simp only [stP_zero]
              generalize takeText e.2.1 4096 = f
              by_cases h7 : (takeText f.2.1 4096).2.2 = 0
              · rw [thenP_ok h7, h7]
                simp only [stP_zero]
                generalize takeText f.2.1 4096 = g
                by_cases h8 : (takeText g.2.1 4096).2.2 = 0
                · rw [thenP_ok h8, if_pos h8, h8]
                · rw [thenP_no h8, if_neg h8]
              · rw [thenP_no h7]; simp only [stP_bad h7]; rw [if_neg h7]
            · rw [thenP_no h6]; simp only [stP_bad h6]; rw [if_neg h6]
          · rw [thenP_no h5]; simp only [stP_bad h5]; rw [if_neg h5]
        · rw [thenP_no h4]; simp only [stP_bad h4]; rw [if_neg h4]
      · rw [thenP_no h3]; simp only [stP_bad h3]; rw [if_neg h3]
    · rw [thenP_no h2]; simp only [stP_bad h2]; rw [if_neg h2]
  · rw [thenP_no h1]; simp only [stP_bad h1]; rw [if_neg h1]
theorem takeCall_parses (c : CallW) (h : OkC 4096 c) : Parses takeCall (callB c) c := by
  obtain ⟨⟨h1, h2, h3, h4, h5⟩, h6, h7, h8⟩ := h
  have T := fun (l : List UInt8) (h : l.length ≤ 4096) => takeText_parses l 4096 (by omega) (by omega)
  have hn : Parses (fun s => ((⟨c.kind, c.ino, c.dest, c.pos, c.many, c.name, c.name2, c.text⟩ : CallW), s, (0 : Int))) [] c := Parses.nil fun s => rfl
  have p8 := (T c.text h8).andThen (bad := call0) (f := fun h s => (⟨c.kind, c.ino, c.dest, c.pos, c.many, c.name, c.name2, h⟩, s, 0)) hn
  have p7 := (T c.name2 h7).andThen (bad := call0) (f := fun g s => thenP call0 (takeText s 4096) fun h s => (⟨c.kind, c.ino, c.dest, c.pos, c.many, c.name, g, h⟩, s, 0)) p8
  have p6 := (T c.name h6).andThen (bad := call0) (f := fun f s => thenP call0 (takeText s 4096) fun g s => thenP call0 (takeText s 4096) fun h s => (⟨c.kind, c.ino, c.dest, c.pos, c.many, f, g, h⟩, s, 0)) p7
  have p5 := (takeWhole_parses _ h5).andThen (bad := call0) (f := fun e s => thenP call0 (takeText s 4096) fun f s => thenP call0 (takeText s 4096) fun g s => thenP call0 (takeText s 4096) fun h s => (⟨c.kind, c.ino, c.dest, c.pos, e, f, g, h⟩, s, 0)) p6
  have p4 := (takeWhole_parses _ h4).andThen (bad := call0) (f := fun d s => thenP call0 (takeWhole s) fun e s => thenP call0 (takeText s 4096) fun f s => thenP call0 (takeText s 4096) fun g s => thenP call0 (takeText s 4096) fun h s => (⟨c.kind, c.ino, c.dest, d, e, f, g, h⟩, s, 0)) p5
  have p3 := (takeWhole_parses _ h3).andThen (bad := call0) (f := fun c' s => thenP call0 (takeWhole s) fun d s => thenP call0 (takeWhole s) fun e s => thenP call0 (takeText s 4096) fun f s => thenP call0 (takeText s 4096) fun g s => thenP call0 (takeText s 4096) fun h s => (⟨c.kind, c.ino, c', d, e, f, g, h⟩, s, 0)) p4
  have p2 := (takeWhole_parses _ h2).andThen (bad := call0) (f := fun b s => thenP call0 (takeWhole s) fun c' s => thenP call0 (takeWhole s) fun d s => thenP call0 (takeWhole s) fun e s => thenP call0 (takeText s 4096) fun f s => thenP call0 (takeText s 4096) fun g s => thenP call0 (takeText s 4096) fun h s => (⟨c.kind, b, c', d, e, f, g, h⟩, s, 0)) p3
  have p1 := (takeWhole_parses _ h1).andThen (bad := call0) (f := fun a s => thenP call0 (takeWhole s) fun b s => thenP call0 (takeWhole s) fun c' s => thenP call0 (takeWhole s) fun d s => thenP call0 (takeWhole s) fun e s => thenP call0 (takeText s 4096) fun f s => thenP call0 (takeText s 4096) fun g s => thenP call0 (takeText s 4096) fun h s => (⟨a, b, c', d, e, f, g, h⟩, s, 0)) p2
  exact p1.same takeCall_chain (by have := callB_eq c []; rw [List.append_nil] at this; exact this)
end Go.Proofs.Ytpojhcpkmpbflaa
