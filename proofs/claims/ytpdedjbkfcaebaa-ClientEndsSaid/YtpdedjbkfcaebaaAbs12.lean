/- Steps found by program: slices held against nil, rows that are made; over any program. No conditions beyond each law's own. -/
import Derived.Test.YtpdedjbkfcaebaaAbs11
set_option linter.unusedVariables false
namespace Copyhold
open Go Go.RowKit
def nilO (P : Program) (ops : Array Oper) (s : LS) (i : Nat) : Option (Nat × Bool × List (List AV) × Nat) :=
  match opAt ops s i with
  | some o =>
    match o.op, o.dst with
    | .binOp .eql t x y _, some d =>
      match P.underlying t, s.ev x, s.ev y with
      | some (.slice _), .sl k tt xs, .val (.slice none 0 0) => some (k, tt, xs, d)
      | _, _, _ => none
    | _, _ => none
  | none => none
theorem seqNil {P : Program} {ops : Array Oper} {K : FS → Prop} {rest : List Nat} {i : Nat} {s : LS} {k d : Nat} {tt : Bool} {xs : List (List AV)} {f : Bool → LS} (h : nilO P ops s i = some (k, tt, xs, d))
    (hf : ∀ b, s.put (some d) (.val (.bool b)) = f b) (kk : ∀ b, (b = true → xs = []) → SeqR P ops K rest (f b).fs) : SeqR P ops K (i :: rest) s.fs := by
  unfold nilO at h
  split at h
  · rename_i o ho
    split at h
    · rename_i t x y yt d' hop hd
      split at h
      · rename_i e k' tt' xs' hu hx hy
        simp only [Option.some.injEq, Prod.mk.injEq] at h
        obtain ⟨rfl, rfl, rfl, rfl⟩ := h
        exact seq_isnil ho hop hu hx hy hd hf kk
      · cases h
    · cases h
  · cases h
def mkO (ops : Array Oper) (s : LS) (i : Nat) : Option (TypeId × Int × Nat) :=
  match opAt ops s i with
  | some o =>
    match o.op, o.dst with
    | .makeSlice t l c, some d =>
      match s.ev l, s.ev c with
      | .val (.int .i64 0), .val (.int .i64 m) => some (t, m, d)
      | _, _ => none
    | _, _ => none
  | none => none
theorem seqMake {P : Program} {ops : Array Oper} {K : FS → Prop} {rest : List Nat} {i : Nat} {s : LS} {t e : TypeId} {k bytes d cap : Nat} {m : Int} {f : Value → LS}
    (h : mkO ops s i = some (t, m, d)) (hm : m = (cap : Int)) (hn : bget s.bx d = none) (hE : elemB P t e k bytes = true) (hby : bytes * cap ≤ 140737488355328) (h63 : cap ≤ 140737488355327)
    (hf : ∀ V', (s.put (some d) (.rw d V' 0)).setB d (.row V' e k []) = f V') (kk : ∀ V', SeqR P ops K rest (f V').fs) : SeqR P ops K (i :: rest) s.fs := by
  unfold mkO at h
  split at h
  · rename_i o ho
    split at h
    · rename_i t' l c d' hop hd
      split at h
      · rename_i m' hl hc
        simp only [Option.some.injEq, Prod.mk.injEq] at h
        obtain ⟨rfl, rfl, rfl⟩ := h
        exact seq_make ho hop hl hc hm hd hn hE hby h63 hf kk
      · cases h
    · cases h
  · cases h
theorem take_flat {α : Type} {ps : List (List α)} {k : Nat} {p : List α} (h : ps[k]? = some p) : (ps.take (k + 1)).flatten = (ps.take k).flatten ++ p := by
  obtain ⟨hk, rfl⟩ := List.getElem?_eq_some_iff.1 h
  rw [List.take_succ_eq_append_getElem hk, List.flatten_append]
  simp
theorem take_flat_le {α : Type} (ps : List (List α)) (k : Nat) : (ps.take k).flatten.length ≤ ps.flatten.length := by
  conv => rhs; rw [← List.take_append_drop k ps]
  rw [List.flatten_append, List.length_append]
  omega
def litO (P : Program) (ops : Array Oper) (s : LS) (i : Nat) : Option (TypeId × Nat × Nat) :=
  match opAt ops s i with
  | some o =>
    match o.op, o.dst with
    | .buildSlice t n parts, some d =>
      match n, parts.toList, elemP P t with
      | 0, [], some e =>
        match szP P e with
        | some k => some (e, k, d)
        | none => none
      | _, _, _ => none
    | _, _ => none
  | none => none
theorem seqLit0 {P : Program} {ops : Array Oper} {K : FS → Prop} {rest : List Nat} {i : Nat} {s : LS} {e k d : Nat} {f : Value → LS}
    (h : litO P ops s i = some (e, k, d)) (hn : bget s.bx d = none) (hf : ∀ V', (s.put (some d) (.rw d V' 0)).setB d (.row V' e k []) = f V') (kk : ∀ V', SeqR P ops K rest (f V').fs) : SeqR P ops K (i :: rest) s.fs := by
  unfold litO at h
  split at h
  · rename_i o ho
    obtain ⟨hi, hg⟩ := opAt_ok ho
    split at h
    · rename_i t n parts d' hop hd
      split at h
      · rename_i e' hp he
        split at h
        · rename_i k' hk
          simp only [Option.some.injEq, Prod.mk.injEq] at h
          obtain ⟨rfl, rfl, rfl⟩ := h
          have hp' : parts = #[] := by have := congrArg List.toArray hp; simpa using this
          subst hp'
          refine ⟨o, hi, .inr ⟨hg, .inr (.inl ⟨by rw [hop]; rfl, _, mono_row (e := e') (k := k') (xs := []) hd (by simp) (fun D w ρ hops => ?_), ?_⟩)⟩⟩
          · refine ⟨.slice (some ⟨w.heap.size, 0, none⟩) 0 0, w.alloc (.cells #[] e'), [], ?_, World.grownBy_alloc w _ none, ⟨by simp, .inr ⟨w.heap.size, 0, #[], rfl, Nat.le_refl _, heap_alloc_new w _, Nat.le_refl _, Nat.zero_le _, by simp, by simp⟩⟩, by simp, fun j a u ha => by simp at ha⟩
            simp [execOp, hop, Instr.buildSlice, run_underlying (elemP_u he), szP_run hk, show Array.range 0 = #[] from rfl, Instr.fill, newRow]
          · rintro z nb ⟨V', rfl, rfl⟩
            refine ⟨fun id y hy => ?_, ?_⟩
            · obtain ⟨rfl, rfl⟩ := by simpa using hy
              exact hn
            · have := kk V'
              rw [← hf V', ← LS.fs_setB, ← LS.fs_put] at this
              rw [hd]
              exact this
        · cases h
      · cases h
    · cases h
  · cases h
end Copyhold
