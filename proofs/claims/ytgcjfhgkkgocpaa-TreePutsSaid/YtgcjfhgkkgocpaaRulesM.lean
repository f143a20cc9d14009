/- Rules for a certificate's open nodes: a row of one's own: where it stands, its elements read and written, lent to a function that hands back no memory; a row handed back under a name of one's choice. Over any program. More rules for a certificate's open nodes: a row of one's own: an element written, a piece of it, copied onto; the first part of a tight slice, made longer with noughts; a tight slice's room. Over any program. Rules for a certificate's open nodes, the last: a row of one's own: an element written, copied onto; a tight slice's first part made longer with noughts. Over any program. Rules for a certificate's open nodes: a piece of a row of one's own, copied onto; a tight slice's first part made longer with noughts. Over any program. Rules for a certificate's open nodes: a row of one's own that is grown and given up at once (what is made may be looked at by callees). Over any program. Rules for a certificate's open nodes: a conversion of a number. Over any program. -/
import Derived.Test.YtgcjfhgkkgocpaaVc
import Derived.Lib.AppendZerosOnto
import Derived.Test.YtgcjfhgkkgocpaaSlice
import Derived.Test.YtgcjfhgkkgocpaaCat
set_option linter.unusedVariables false
set_option linter.unusedSimpArgs false
namespace Go.Proofs.Ytgcjfhgkkgocpaa
open Go Go.RowKit Copyhold
end Go.Proofs.Ytgcjfhgkkgocpaa

set_option linter.unusedVariables false
set_option linter.unusedSimpArgs false
namespace Go.Proofs.Ytgcjfhgkkgocpaa
open Go Go.RowKit Copyhold
end Go.Proofs.Ytgcjfhgkkgocpaa

set_option linter.unusedVariables false
set_option linter.unusedSimpArgs false
namespace Go.Proofs.Ytgcjfhgkkgocpaa
open Go Go.RowKit Copyhold
def PW (D : Nat → Prop) (w : World) (as : List AV) (us : List Value) : Prop := ∀ (j : Nat) (a : AV) (u : Value), as[j]? = some a → us[j]? = some u → Ra D w a u
theorem PW.append {D : Nat → Prop} {w : World} {as bs : List AV} {us vs : List Value} (hl : as.length = us.length) (h : PW D w as us) (k : PW D w bs vs) : PW D w (as ++ bs) (us ++ vs) := fun j a u ha hu => by
  by_cases hj : j < as.length
  · rw [List.getElem?_append_left hj] at ha
    rw [List.getElem?_append_left (by omega)] at hu
    exact h j a u ha hu
  · rw [List.getElem?_append_right (by omega)] at ha
    rw [List.getElem?_append_right (by omega), ← hl] at hu
    exact k _ a u ha hu
theorem PW.take {D : Nat → Prop} {w : World} {as : List AV} {us : List Value} (h : PW D w as us) (n : Nat) : PW D w (as.take n) (us.take n) := fun j a u ha hu => by
  rw [List.getElem?_take] at ha hu
  split at ha
  · rename_i hj
    rw [if_pos hj] at hu
    exact h j a u ha hu
  · cases ha
theorem PW.drop {D : Nat → Prop} {w : World} {as : List AV} {us : List Value} (h : PW D w as us) (n : Nat) : PW D w (as.drop n) (us.drop n) := fun j a u ha hu => by
  rw [List.getElem?_drop] at ha hu
  exact h _ a u ha hu
end Go.Proofs.Ytgcjfhgkkgocpaa

set_option linter.unusedVariables false
set_option linter.unusedSimpArgs false
namespace Go.Proofs.Ytgcjfhgkkgocpaa
open Go Go.RowKit Copyhold
end Go.Proofs.Ytgcjfhgkkgocpaa

set_option linter.unusedVariables false
set_option linter.unusedSimpArgs false
namespace Go.Proofs.Ytgcjfhgkkgocpaa
open Go Go.RowKit Copyhold
end Go.Proofs.Ytgcjfhgkkgocpaa

set_option linter.unusedVariables false
set_option linter.unusedSimpArgs false
namespace Go.Proofs.Ytgcjfhgkkgocpaa
open Go Go.RowKit Copyhold
def cvR (ops : Array Oper) (s : LS) (i : Nat) : Option (TypeId × TypeId × Value × Option Tmp) :=
  match opAt ops s i with
  | some o =>
    match o.op with
    | .convert a b y =>
      match s.ev y with
      | .val v => some (a, b, v, o.dst)
      | _ => none
    | _ => none
  | none => none
theorem rule_cv {P : Program} {a b : TypeId} {v u : Value} {d : Option Tmp} (hc : ∀ w, (Go.convert a b v).run P w = .ok u w) :
    ∀ (ops : Array Oper) (i : Nat) (s : LS) (K : FS → Prop) (rest : List Nat), cvR ops s i = some (a, b, v, d) → (∀ _ : Unit, SeqR P ops K rest (s.put d (.val u)).fs) → SeqR P ops K (i :: rest) s.fs := by
  intro ops i s K rest h kk
  unfold cvR at h
  split at h
  · rename_i o ho
    obtain ⟨hi, hg⟩ := opAt_ok ho
    split at h
    · rename_i a' b' y hop
      split at h
      · rename_i v' hy
        simp only [Option.some.injEq, Prod.mk.injEq] at h
        obtain ⟨rfl, rfl, rfl, rfl⟩ := h
        refine ⟨o, hi, .inr ⟨hg, .inl ⟨.val u, .inl ?_, ?_⟩⟩⟩
        · intro D w ρ hops
          have hv := arg_of hops y (by simp [hop, Op.operands])
          rw [hy] at hv
          have hvv : ρ y = v' := by
            generalize ρ y = z at hv
            cases hv
            rfl
          exact ⟨u, by simp [execOp, hop, hvv, hc w], .val _⟩
        · rw [LS.fs_put]; exact kk ()
      · cases h
    · cases h
  · cases h
end Go.Proofs.Ytgcjfhgkkgocpaa
