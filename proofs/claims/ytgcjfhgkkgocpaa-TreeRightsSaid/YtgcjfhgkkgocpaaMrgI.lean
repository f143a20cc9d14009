/- Rules for a certificate's open nodes: a row of one's own: where it stands, its elements read and written, lent to a function that hands back no memory; a row handed back under a name of one's choice. Over any program. Pieces of slices, over any program: what 's[:i]' and 's[i:]' are, and what they read as; make with room. More rules for a certificate's open nodes: a row of one's own: an element written, a piece of it, copied onto; the first part of a tight slice, made longer with noughts; a tight slice's room. Over any program. A slice of slices in memory, over any program: what it reads as, piece by piece; the sums and rows of its pieces. For slices.Concat. Rules for a certificate's open nodes, the last: a row of one's own: an element written, copied onto; a tight slice's first part made longer with noughts. Over any program. Rules for a certificate's open nodes: a piece of a row of one's own, copied onto; a tight slice's first part made longer with noughts. Over any program. Rules for a certificate's open nodes: a row of one's own that is grown and given up at once (what is made may be looked at by callees). Over any program. Rules for a certificate's open nodes: a conversion of a number. Over any program. Rules for a certificate's open nodes: the greater of two numbers; shifts; conversions between kinds of numbers. Over any program. Rows and truth values: what a loop over a row has found so far. Over any program. No conditions beyond each law's own. The data of nodes and stores. Layer 6, without a program: which names and rows are right, a name's place in a row that rises, what entering and leaving make of one. Rows of entries in memory: what they read as, and those among the arguments. Layer 6, without a program: what a path is split into. strings.Contains of one byte, name.Check, copyholdref06.Check: they answer as the document says; memory is as it was. -/
import Derived.Test.YtgcjfhgkkgocpaaVc
import Derived.Test.YtgcjfhgkkgocpaaMrgA
import Derived.Lib.AppendZerosOnto
import Derived.Test.YtgcjfhgkkgocpaaMrgH
import Derived.Test.YtgcjfhgkkgocpaaChecked
import Derived.Test.YtgcjfhgkkgocpaaRows
import Derived.Laws.Externs
import Derived.Lib.Bytealg
set_option linter.unusedVariables false
set_option linter.unusedSimpArgs false
namespace Go.Proofs.Ytgcjfhgkkgocpaa
open Go Go.RowKit Copyhold
theorem callO_run {P : Program} {ops : Array Oper} {s : LS} {i : Nat} {f : FuncId} {args : List AV} {d : Option Tmp} (h : callO ops s i = some (f, args, d)) :
    ∃ o, ops[i]? = some o ∧ gd ops s.fs o = some true ∧ isRd P o.op = false ∧ o.dst = d ∧ ∀ (D : Nat → Prop) (w : World) (ρ : Operand → Value), opsR D w s.fs ρ o → ∃ vs, (execOp ρ o).run P w = (callFunc f vs).run P w ∧ RaAll D w args vs := by
  unfold callO at h
  split at h
  · rename_i o ho
    obtain ⟨hi, hg⟩ := opAt_ok ho
    split at h
    · rename_i c hop
      split at h
      · rename_i fo hc
        have hrd : isRd P o.op = false := by
          obtain ⟨callee, cargs, cts⟩ := c
          simp only at hc
          subst hc
          rw [hop]; rfl
        split at h
        · rename_i g' hfv
          simp only [Option.some.injEq, Prod.mk.injEq] at h
          obtain ⟨rfl, rfl, hd⟩ := h
          refine ⟨o, hi, hg, hrd, hd, fun D w ρ hops => ⟨c.args.map ρ, ?_, args_ra hop hops⟩⟩
          have hvf := arg_of hops fo (by simp [hop, Op.operands, Call.operands, hc])
          rw [hfv] at hvf
          generalize hfv' : ρ fo = vf at hvf
          cases hvf
          simp [execOp, hop, resolve, hc, hfv', Deferred.ofValue, invoke]
        · rename_i g' caps hfv
          simp only [Option.some.injEq, Prod.mk.injEq] at h
          obtain ⟨rfl, rfl, hd⟩ := h
          refine ⟨o, hi, hg, hrd, hd, fun D w ρ hops => ?_⟩
          have hvf := arg_of hops fo (by simp [hop, Op.operands, Call.operands, hc])
          rw [hfv] at hvf
          generalize hfv' : ρ fo = vf at hvf
          cases hvf with
          | clo g caps vs h1 h2 =>
            obtain ⟨a1, a2⟩ := args_ra hop hops
            refine ⟨c.args.map ρ ++ vs, by simp [execOp, hop, resolve, hc, hfv', Deferred.ofValue, invoke], by simp; omega, fun j x v hx hv => ?_⟩
            by_cases hj : j < (c.args.map ρ).size
            · rw [Array.getElem?_append_left hj] at hv
              rw [List.getElem?_append_left (by omega)] at hx
              exact a2 j x v hx hv
            · rw [Array.getElem?_append_right (by omega)] at hv
              rw [List.getElem?_append_right (by omega), a1] at hx
              exact h2 _ x v hx hv
        · cases h
      · cases h
    · cases h
  · cases h
end Go.Proofs.Ytgcjfhgkkgocpaa

namespace Copyhold
open Go Go.RowKit
def cutA (A : Option Addr) (c i size : Nat) : Option Addr := if c = i then A else A.map (·.add (i * size))
theorem Sl.pre {w : World} {k : Nat} {A : Option Addr} {n c : Nat} {xs : List Value} (h : Sl w k (.slice A n c) n xs) (i : Nat) (hi : i ≤ n) : Sl w k (.slice A i c) i (xs.take (i * k)) := by
  obtain ⟨A', c', he, hc, hl, hh⟩ := h
  simp only [Value.slice.injEq] at he
  obtain ⟨rfl, _, rfl⟩ := he
  have hik : i * k ≤ n * k := Nat.mul_le_mul_right _ hi
  refine ⟨A, c, rfl, by omega, by rw [List.length_take]; omega, fun h0 => ?_⟩
  obtain ⟨b, off, rfl, hb, hcell⟩ := hh (by omega)
  refine ⟨b, off, rfl, hb, fun j x hx => hcell j x ?_⟩
  rw [List.getElem?_take] at hx
  split at hx
  · exact hx
  · cases hx
theorem Sl.post {w : World} {k : Nat} {A : Option Addr} {n c : Nat} {xs : List Value} (h : Sl w k (.slice A n c) n xs) (i : Nat) (hi : i ≤ n) : Sl w k (.slice (cutA A c i k) (n - i) (c - i)) (n - i) (xs.drop (i * k)) := by
  obtain ⟨A', c', he, hc, hl, hh⟩ := h
  simp only [Value.slice.injEq] at he
  obtain ⟨rfl, _, rfl⟩ := he
  refine ⟨_, _, rfl, by omega, by rw [List.length_drop, hl, Nat.sub_mul], fun h0 => ?_⟩
  obtain ⟨b, off, rfl, hb, hcell⟩ := hh (by omega)
  refine ⟨b, off + i * k, ?_, hb, fun j x hx => ?_⟩
  · rw [cutA, if_neg (by omega), Option.map_some, add_plain']
  · rw [Nat.add_assoc]
    refine hcell _ _ ?_
    rw [← hx, List.getElem?_drop]
end Copyhold

set_option linter.unusedVariables false
set_option linter.unusedSimpArgs false
namespace Go.Proofs.Ytgcjfhgkkgocpaa
open Go Go.RowKit Copyhold
end Go.Proofs.Ytgcjfhgkkgocpaa

set_option linter.unusedVariables false
namespace Copyhold
open Go Go.RowKit
abbrev Piece := Value × Nat × List Value
def Cats (w : World) (k : Nat) (v : Value) (ss : List Piece) : Prop :=
  Sl w 1 v ss.length (ss.map (·.1)) ∧ ∀ s ∈ ss, Sl w k s.1 s.2.1 s.2.2 ∧ ∀ u ∈ s.2.2, u.oneCell' = true
theorem Cats.below {w w' : World} {k : Nat} {v : Value} {ss : List Piece} (h : Cats w k v ss) (hb : Below w.heap.size w w') : Cats w' k v ss :=
  ⟨h.1.below hb, fun s hs => ⟨(h.2 s hs).1.below hb, (h.2 s hs).2⟩⟩
structure SlIs (w : World) (k : Nat) (A : Option Addr) (n c : Nat) (p : Piece) : Prop where
  n_is : p.2.1 = n
  sl : Sl w k (.slice A n c) n p.2.2
theorem Cats.at {w : World} {k : Nat} {A : Option Addr} {c : Nat} {ss : List Piece} (h : Cats w k (.slice A ss.length c) ss) (i : Nat) (hi : i < ss.length) :
    ∃ b off A' n' c', A = some ⟨b, off, none⟩ ∧ b < w.heap.size ∧ w.cell? ⟨b, off + i, none⟩ = some (.slice A' n' c') ∧ SlIs w k A' n' c' ss[i] ∧ ∀ u ∈ ss[i].2.2, u.oneCell' = true := by
  obtain ⟨h1, h2⟩ := h
  obtain ⟨b, off, rfl, hb, _, _, hcell⟩ := h1.at (by omega)
  obtain ⟨g1, g2⟩ := h2 ss[i] (List.getElem_mem _)
  obtain ⟨A', c', e, _, _⟩ := g1.shape
  refine ⟨b, off, A', ss[i].2.1, c', rfl, hb, ?_, ⟨rfl, by rw [← e]; exact g1⟩, g2⟩
  rw [← e]
  exact hcell i _ (by rw [List.getElem?_map, List.getElem?_eq_getElem hi]; rfl)
end Copyhold

set_option linter.unusedVariables false
set_option linter.unusedSimpArgs false
namespace Go.Proofs.Ytgcjfhgkkgocpaa
open Go Go.RowKit Copyhold
def PW (D : Nat → Prop) (w : World) (ws : List AV) (us : List Value) : Prop := ∀ (j : Nat) (a : AV) (u : Value), ws[j]? = some a → us[j]? = some u → Ra D w a u
theorem PW.append {D : Nat → Prop} {w : World} {ws bs : List AV} {us vs : List Value} (hl : ws.length = us.length) (h : PW D w ws us) (k : PW D w bs vs) : PW D w (ws ++ bs) (us ++ vs) := fun j a u ha hu => by
  by_cases hj : j < ws.length
  · rw [List.getElem?_append_left hj] at ha
    rw [List.getElem?_append_left (by omega)] at hu
    exact h j a u ha hu
  · rw [List.getElem?_append_right (by omega)] at ha
    rw [List.getElem?_append_right (by omega), ← hl] at hu
    exact k _ a u ha hu
theorem PW.take {D : Nat → Prop} {w : World} {ws : List AV} {us : List Value} (h : PW D w ws us) (n : Nat) : PW D w (ws.take n) (us.take n) := fun j a u ha hu => by
  rw [List.getElem?_take] at ha hu
  split at ha
  · rename_i hj
    rw [if_pos hj] at hu
    exact h j a u ha hu
  · cases ha
theorem PW.drop {D : Nat → Prop} {w : World} {ws : List AV} {us : List Value} (h : PW D w ws us) (n : Nat) : PW D w (ws.drop n) (us.drop n) := fun j a u ha hu => by
  rw [List.getElem?_drop] at ha hu
  exact h _ a u ha hu
end Go.Proofs.Ytgcjfhgkkgocpaa

set_option linter.unusedVariables false
set_option linter.unusedSimpArgs false
namespace Go.Proofs.Ytgcjfhgkkgocpaa
open Go Go.RowKit Copyhold
end Go.Proofs.Ytgcjfhgkkgocpaa

set_option linter.unusedVariables false
set_option linter.unusedSimpArgs false
namespace Go.Proofs.Ytgcjfhgkkgocpaa
open Go Go.RowKit Copyhold
end Go.Proofs.Ytgcjfhgkkgocpaa

set_option linter.unusedVariables false
set_option linter.unusedSimpArgs false
namespace Go.Proofs.Ytgcjfhgkkgocpaa
open Go Go.RowKit Copyhold
def cvR (ops : Array Oper) (s : LS) (i : Nat) : Option (TypeId × TypeId × Value × Option Tmp) :=
  match opAt ops s i with
  | some o =>
    match o.op with
    | .convert a b y =>
      match s.ev y with
      | .val v => some (a, b, v, o.dst)
      | _ => none
    | _ => none
  | none => none
theorem rule_cv {P : Program} {a b : TypeId} {v u : Value} {d : Option Tmp} (hc : ∀ w, (Go.convert a b v).run P w = .ok u w) :
    ∀ (ops : Array Oper) (i : Nat) (s : LS) (K : FS → Prop) (rest : List Nat), cvR ops s i = some (a, b, v, d) → (∀ _ : Unit, SeqR P ops K rest (s.put d (.val u)).fs) → SeqR P ops K (i :: rest) s.fs := by
  intro ops i s K rest h kk
  unfold cvR at h
  split at h
  · rename_i o ho
    obtain ⟨hi, hg⟩ := opAt_ok ho
    split at h
    · rename_i a' b' y hop
      split at h
      · rename_i v' hy
        simp only [Option.some.injEq, Prod.mk.injEq] at h
        obtain ⟨rfl, rfl, rfl, rfl⟩ := h
        refine ⟨o, hi, .inr ⟨hg, .inl ⟨.val u, .inl ?_, ?_⟩⟩⟩
        · intro D w ρ hops
          have hv := arg_of hops y (by simp [hop, Op.operands])
          rw [hy] at hv
          have hvv : ρ y = v' := by
            generalize ρ y = z at hv
            cases hv
            rfl
          exact ⟨u, by simp [execOp, hop, hvv, hc w], .val _⟩
        · rw [LS.fs_put]; exact kk ()
      · cases h
    · cases h
  · cases h
end Go.Proofs.Ytgcjfhgkkgocpaa

set_option linter.unusedVariables false
set_option linter.unusedSimpArgs false
namespace Go.Proofs.Ytgcjfhgkkgocpaa
open Go Go.RowKit Copyhold
theorem conv_int {P : Program} {a b : TypeId} {k k' : IntKind} {n : Int} (ha : P.underlying a = some (.int k)) (hb : P.underlying b = some (.int k')) (hw : rng k' n) : ∀ w, (Go.convert a b (.int k n)).run P w = .ok (.int k' n) w := fun w => by
  simp [Go.convert, run_underlying ha, run_underlying hb, Conv.intToInt, rng_wrap hw]
theorem rngu {z : Int} (h1 : 0 ≤ z) (h2 : z ≤ 18446744073709551615) : rng .u64 z := ⟨h1, h2⟩
theorem shrN {P : Program} {t : TypeId} {yk : IntKind} {a : Int} {b : Nat} (hb : b ≤ 64) (D : Nat → Prop) (w : World) (xo yo : Operand) (u v : Value) (hu : Ra D w (.val (.int .u64 a)) u) (hv : Ra D w (.val (.int yk (b : Int))) v) :
    ∃ r, ((do Go.eqGuard .shr t xo yo u v; Go.binOp .shr t u v) : Sem Value).run P w = .ok r w ∧ Ra D w (.val (.int .u64 (a / 2 ^ b))) r := by
  cases hu; cases hv
  refine ⟨_, ?_, .val _⟩
  have h1 : ¬ (b : Int) < 0 := by omega
  have h2 : min ((b : Int)).toNat IntKind.u64.bits = b := by show min ((b : Int)).toNat 64 = b; omega
  simp [eqGuard, binOp, Op.shift, h1, h2]
theorem fdiv2 (n : Nat) : (n : Int) / 2 ^ 1 = ((n / 2 : Nat) : Int) := by
  show (n : Int) / 2 = _
  omega
end Go.Proofs.Ytgcjfhgkkgocpaa

set_option linter.unusedVariables false
namespace Go.Proofs.Ytgcjfhgkkgocpaa
open Go Go.RowKit Copyhold
noncomputable def dP (p : Prop) : Bool := @decide p (Classical.propDecidable p)
theorem dP_true {p : Prop} : dP p = true ↔ p := by unfold dP; simp
theorem dP_false {p : Prop} : dP p = false ↔ ¬ p := by unfold dP; simp
theorem dPt {p : Prop} (h : p) : true = dP p := (dP_true.2 h).symm
theorem dPf {p : Prop} (h : ¬ p) : false = dP p := (dP_false.2 h).symm
theorem dPe {b : Bool} {p : Prop} (h : b = true ↔ p) : b = dP p := by
  cases b with
  | true => exact dPt (h.1 rfl)
  | false => exact dPf fun hp => by cases h.2 hp
theorem sT {p : Prop} (h : p) : Sub (aB true) (aB (dP p)) := Sub.of_eq (congrArg aB (dPt h))
theorem sF {p : Prop} (h : ¬ p) : Sub (aB false) (aB (dP p)) := Sub.of_eq (congrArg aB (dPf h))
theorem sE {b : Bool} {p : Prop} (h : b = true ↔ p) : Sub (aB b) (aB (dP p)) := Sub.of_eq (congrArg aB (dPe h))
section
variable {α β : Type}
theorem sum_take (f : α → Nat) {l : List α} {k : Nat} {x : α} (h : l[k]? = some x) : ((l.take (k + 1)).map f).sum = ((l.take k).map f).sum + f x := by
  rw [List.take_add_one, h]; simp
theorem sum_take_le (f : α → Nat) (l : List α) (k : Nat) : ((l.take k).map f).sum ≤ (l.map f).sum := by
  have h : (l.map f).sum = ((l.take k).map f).sum + ((l.drop k).map f).sum := by
    rw [← List.sum_append, ← List.map_append, List.take_append_drop]
  omega
theorem mem_take_add {l : List α} {k : Nat} {x y : α} (h : l[k]? = some x) (hy : y ∈ l.take (k + 1)) : y ∈ l.take k ∨ y = x := by
  rw [List.take_add_one, h] at hy
  simpa using hy
theorem take_all {l : List α} {k : Nat} (h : l.length ≤ k) : l.take k = l := List.take_of_length_le h
theorem take_step {l : List α} {k : Nat} {x : α} (h : l[k]? = some x) : l.take (k + 1) = l.take k ++ [x] := by
  rw [List.take_add_one, h]; rfl
theorem lt_of_some {l : List α} {k : Nat} {x : α} (h : l[k]? = some x) : k < l.length := (List.getElem?_eq_some_iff.1 h).1
def AllTo (Q : Nat → α → Prop) (l : List α) (k : Nat) : Prop := ∀ i e, i < k → l[i]? = some e → Q i e
def AllQ (Q : Nat → α → Prop) (l : List α) : Prop := ∀ i e, l[i]? = some e → Q i e
theorem AllTo.zero (Q : Nat → α → Prop) (l : List α) : AllTo Q l 0 := fun i e h => by omega
theorem AllTo.step {Q : Nat → α → Prop} {l : List α} {k : Nat} {x : α} (h : AllTo Q l k) (hx : l[k]? = some x) (q : Q k x) : AllTo Q l (k + 1) := fun i e hi he => by
  by_cases hk : i = k
  · subst hk
    rw [hx] at he
    obtain rfl := Option.some.inj he
    exact q
  · exact h i e (by omega) he
theorem AllTo.full {Q : Nat → α → Prop} {l : List α} {k : Nat} (h : AllTo Q l k) (hk : l.length ≤ k) : AllQ Q l := fun i e he => h i e (by have := lt_of_some he; omega) he
theorem AllQ.at {Q : Nat → α → Prop} {l : List α} (h : AllQ Q l) {k : Nat} {x : α} (hx : l[k]? = some x) : Q k x := h k x hx
end
end Go.Proofs.Ytgcjfhgkkgocpaa

set_option linter.unusedVariables false
set_option linter.unusedSimpArgs false
namespace Go.Proofs.Ytgcjfhgkkgocpaa
open Go Go.RowKit Copyhold
abbrev Txt := List UInt8
structure Ent where
  name : Txt
  ino : Int
  deriving DecidableEq
structure Nod where
  ino : Int
  kind : Int
  links : Int
  text : Txt
  l : List Ent
  deriving DecidableEq
structure Ver where
  stamp : Int
  gone : Bool
  n : Nod
  deriving DecidableEq
structure Chn where
  ino : Int
  l : List Ver
  deriving DecidableEq
structure Cnt where
  stamp : Int
  next : Int
  deriving DecidableEq
structure Sto where
  l : List Chn
  nexts : List Cnt
  stamp : Int
  deriving DecidableEq
structure Fsy where
  l : List Nod
  next : Int
  deriving DecidableEq
def entA (e : Ent) : List AV := [aS e.name, aI e.ino]
def nodA (n : Nod) : List AV := [aI n.ino, aI n.kind, aI n.links, aS n.text, .sl 2 false (n.l.map entA)]
def fsyA (f : Fsy) : List AV := [.sl 5 false (f.l.map nodA), aI f.next]
def I64 (n : Int) : Prop := -9223372036854775808 ≤ n ∧ n ≤ 9223372036854775807
def OkE (e : Ent) : Prop := e.name.length ≤ 140737488351232 ∧ I64 e.ino
def OkN (n : Nod) : Prop := I64 n.ino ∧ I64 n.kind ∧ I64 n.links ∧ n.text.length ≤ 140737488351232 ∧ n.l.length ≤ 8796093022207 ∧ ∀ e ∈ n.l, OkE e
def OkF (f : Fsy) : Prop := I64 f.next ∧ f.l.length ≤ 8796093022207 ∧ ∀ n ∈ f.l, OkN n
end Go.Proofs.Ytgcjfhgkkgocpaa

set_option linter.unusedVariables false
namespace Copyhold.Name
abbrev Ent := List UInt8 × Int
def pos (l : List Ent) (s : List UInt8) : Nat := l.countP (fun x => decide (x.1 < s))
end Copyhold.Name

set_option linter.unusedVariables false
namespace Copyhold.Name
open Go Go.RowKit
def entC (x : Ent) : List Value := [strV x.1, .int .i64 x.2]
def Ents (w : World) (v : Value) (l : List Ent) : Prop := Sl w 2 v l.length (l.flatMap entC)
theorem entC_get : ∀ (l : List Ent) (i : Nat), (l.flatMap entC)[i * 2]? = l[i]?.map (fun x => strV x.1) ∧ (l.flatMap entC)[i * 2 + 1]? = l[i]?.map (fun x => .int .i64 x.2)
  | [], i => by simp
  | x :: l, 0 => by simp [entC]
  | x :: l, i + 1 => by
    have h := entC_get l i
    rw [List.flatMap_cons]
    constructor
    · rw [List.getElem?_append_right (by simp [entC]; omega)]
      simp only [entC, List.length_cons, List.length_nil]
      rw [show (i + 1) * 2 - (0 + 1 + 1) = i * 2 from by omega, h.1]
      simp
    · rw [List.getElem?_append_right (by simp [entC]; omega)]
      simp only [entC, List.length_cons, List.length_nil]
      rw [show (i + 1) * 2 + 1 - (0 + 1 + 1) = i * 2 + 1 from by omega, h.2]
      simp
theorem entC_len (l : List Ent) : (l.flatMap entC).length = l.length * 2 := by
  induction l with
  | nil => rfl
  | cons x l ih => rw [List.flatMap_cons, List.length_append, ih]; simp [entC]; omega
theorem Ents.shape {w : World} {v : Value} {l : List Ent} (h : Ents w v l) : ∃ A c, v = .slice A l.length c ∧ l.length ≤ c := by
  obtain ⟨A, c, rfl, hc, _⟩ := Sl.shape h
  exact ⟨A, c, rfl, hc⟩
theorem Ents.below {w w' : World} {v : Value} {l : List Ent} (h : Ents w v l) (hb : Below w.heap.size w w') : Ents w' v l := Sl.below h hb
theorem Ents.nil (w : World) : Ents w (.slice none 0 0) [] := Sl.nil w 2
theorem Ents.at {w : World} {A : Option Addr} {c : Nat} {l : List Ent} (h : Ents w (.slice A l.length c) l) (k : Nat) (hk : k < l.length) :
    ∃ b off, A = some ⟨b, off, none⟩ ∧ b < w.heap.size ∧ l.length ≤ c ∧ w.cell? ⟨b, off + k * 2, none⟩ = some (.string ⟨(l[k].1).toArray⟩) ∧ w.cell? ⟨b, off + k * 2 + 1, none⟩ = some (.int .i64 l[k].2) := by
  obtain ⟨b, off, rfl, hb, hc, _, hcell⟩ := Sl.at h (by omega)
  have hg := entC_get l k
  rw [List.getElem?_eq_getElem hk] at hg
  exact ⟨b, off, rfl, hb, hc, hcell _ _ hg.1, by rw [Nat.add_assoc]; exact hcell _ _ hg.2⟩
theorem flatMap_take (l : List Ent) (i : Nat) : (l.take i).flatMap entC = (l.flatMap entC).take (i * 2) := by
  induction l generalizing i with
  | nil => simp
  | cons x l ih =>
    cases i with
    | zero => simp
    | succ i =>
      rw [List.take_succ_cons, List.flatMap_cons, List.flatMap_cons, ih i, List.take_append]
      have : (entC x).length = 2 := rfl
      rw [this, show (i + 1) * 2 - 2 = i * 2 from by omega, List.take_of_length_le (l := entC x) (by rw [this]; omega)]
theorem flatMap_drop (l : List Ent) (i : Nat) : (l.drop i).flatMap entC = (l.flatMap entC).drop (i * 2) := by
  induction l generalizing i with
  | nil => simp
  | cons x l ih =>
    cases i with
    | zero => simp
    | succ i =>
      rw [List.drop_succ_cons, List.flatMap_cons, ih i, List.drop_append]
      have : (entC x).length = 2 := rfl
      rw [this, show (i + 1) * 2 - 2 = i * 2 from by omega, List.drop_of_length_le (l := entC x) (by rw [this]; omega), List.nil_append]
theorem Ents.take {w : World} {A : Option Addr} {c : Nat} {l : List Ent} (h : Ents w (.slice A l.length c) l) (i : Nat) (hi : i ≤ l.length) : Ents w (.slice A i c) (l.take i) := by
  obtain ⟨A', c', he, hc, hl, hh⟩ := h
  simp only [Value.slice.injEq] at he
  obtain ⟨rfl, _, rfl⟩ := he
  refine ⟨A, c, by rw [List.length_take, Nat.min_eq_left hi], by rw [List.length_take]; omega, entC_len _, fun h0 => ?_⟩
  rw [List.length_take] at h0
  obtain ⟨b, off, rfl, hb, hcell⟩ := hh (by omega)
  refine ⟨b, off, rfl, hb, fun j x hx => hcell j x ?_⟩
  rw [flatMap_take] at hx
  rw [List.getElem?_take] at hx
  split at hx
  · exact hx
  · cases hx
theorem Ents.drop {w : World} {A A' : Option Addr} {c n c' : Nat} {l : List Ent} (h : Ents w (.slice A l.length c) l) (i : Nat) (hi : i ≤ l.length) (hn : n = l.length - i) (hc' : c' = c - i) (hA : i < l.length → ∀ b off, A = some ⟨b, off, none⟩ → A' = some ⟨b, off + i * 2, none⟩) : Ents w (.slice A' n c') (l.drop i) := by
  obtain ⟨A0, c0, he, hc, hl, hh⟩ := h
  simp only [Value.slice.injEq] at he
  obtain ⟨rfl, _, rfl⟩ := he
  subst hn hc'
  refine ⟨A', c - i, by rw [List.length_drop], by rw [List.length_drop]; omega, entC_len _, fun h0 => ?_⟩
  rw [List.length_drop] at h0
  obtain ⟨b, off, rfl, hb, hcell⟩ := hh (by omega)
  refine ⟨b, off + i * 2, hA (by omega) b off rfl, hb, fun j x hx => ?_⟩
  rw [flatMap_drop, List.getElem?_drop] at hx
  rw [Nat.add_assoc]
  exact hcell _ x hx
end Copyhold.Name
namespace Go.Proofs.Ytgcjfhgkkgocpaa
open Go.RowKit Go.ChangeShapes Go.WideShapes Go.ChangeAt Copyhold Copyhold.Name
end Go.Proofs.Ytgcjfhgkkgocpaa

set_option linter.unusedVariables false
namespace Copyhold.Name
end Copyhold.Name

set_option linter.unusedVariables false
namespace Go.Proofs.Ytgcjfhgkkgocpaa
open Go.RowKit Copyhold Copyhold.Name
theorem run_indexByte (s : List UInt8) (c : UInt8) (W : World) : (callFunc 81 #[.string ⟨s.toArray⟩, .int .u8 (c.toNat : Int)]).run Try.prog W = .ok (.value (.int .i64 (Lib.indexByte s c))) W := by
  rw [run_callFunc_extern (e := Extern.BytealgIndexByte.indexByte) Try.func81 (by kernel_rfl) (by kernel_rfl) (by kernel_rfl) (by kernel_rfl), Lib.run_indexByteString]
  simp
theorem slite_IndexByte (s : List UInt8) (c : UInt8) (w : World) : Calls Try.prog 77 #[.string ⟨s.toArray⟩, .int .u8 (c.toNat : Int)] w fun e w' => e = .returned (.int .i64 (Lib.indexByte s c)) ∧ w = w' := by
  have hr := run_indexByte s c
  go_enter Try.func77, Try.ntmps77
  go_wp2_with fail
  go_ret
  exact ⟨rfl, rfl⟩
theorem slite_Index (s : List UInt8) (c : UInt8) (w : World) : Calls Try.prog 76 #[.string ⟨s.toArray⟩, .string ⟨#[c]⟩] w fun e w' => e = .returned (.int .i64 (Lib.indexByte s c)) ∧ w = w' := by
  by_cases he : s = [c]
  · subst he
    rw [show Lib.indexByte [c] c = 0 from by simp [Lib.indexByte]]
    set_option maxRecDepth 100000 in
    go_enter Try.func76, Try.ntmps76
    go_wp2_with fail
    go_ret
    exact ⟨rfl, rfl⟩
  · have hq : ([c] == s) = false := by simpa using Ne.symm he
    clear he
    set_option maxRecDepth 100000 in
    go_enter Try.func76, Try.ntmps76
    go_wp2_with fail
    refine (slite_IndexByte s c _).mono ?_
    rintro e w1 ⟨rfl, rfl⟩
    go_wp2_with fail
    go_ret
    exact ⟨rfl, rfl⟩
theorem strings_Index_one (s : List UInt8) (c : UInt8) (w : World) : Calls Try.prog 75 #[.string ⟨s.toArray⟩, .string ⟨#[c]⟩] w fun e w' => e = .returned (.int .i64 (Lib.indexByte s c)) ∧ w = w' := by
  go_enter Try.func75, Try.ntmps75
  go_wp2_with fail
  refine (slite_Index s c _).mono ?_
  rintro e w1 ⟨rfl, rfl⟩
  go_wp2_with fail
  go_ret
  exact ⟨rfl, rfl⟩
theorem indexByte_mem (s : List UInt8) (c : UInt8) : decide (0 ≤ Lib.indexByte s c) = s.contains c := by
  induction s with
  | nil => simp [Lib.indexByte]
  | cons b l ih =>
    have hg := Lib.indexByte_ge l c
    rw [Lib.indexByte, List.contains_cons, ← ih]
    by_cases hb : b = c
    · subst hb; simp
    · have h1 : (b == c) = false := by simpa using hb
      have h2 : (c == b) = false := by simpa using Ne.symm hb
      rw [h1, h2]
      by_cases h : Lib.indexByte l c = -1
      · rw [h]; simp
      · have h3 : (Lib.indexByte l c == -1) = false := by simpa using h
        rw [h3]
        simp
        omega
theorem strings_Contains_one (s : List UInt8) (c : UInt8) (w : World) : Calls Try.prog 74 #[.string ⟨s.toArray⟩, .string ⟨#[c]⟩] w fun e w' => e = .returned (.bool (s.contains c)) ∧ w = w' := by
  have hm := Lib.hid (indexByte_mem s c)
  have hge := Lib.indexByte_ge s c
  generalize hx : Lib.indexByte s c = x at *
  have HX := Lib.hid hx
  clear hx
  go_enter Try.func74, Try.ntmps74
  go_wp2_with fail
  refine (strings_Index_one s c _).mono ?_
  rintro e w1 ⟨rfl, rfl⟩
  rw [HX.out]
  go_wp2_with fail
  go_ret
  exact ⟨by rw [← hm.out]; rfl, rfl⟩
end Go.Proofs.Ytgcjfhgkkgocpaa
