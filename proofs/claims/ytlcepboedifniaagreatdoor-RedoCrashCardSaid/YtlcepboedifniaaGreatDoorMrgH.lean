/- Rows and truth values: what a loop over a row has found so far. Over any program. No conditions beyond each law's own. The data of nodes and stores. Rules for a certificate's open nodes: a row of one's own: where it stands, its elements read and written, lent to a function that hands back no memory; a row handed back under a name of one's choice. Over any program. A box lent to a callee that may turn it: the callee's contract, and the call. Pieces of slices, over any program: what 's[:i]' and 's[i:]' are, and what they read as; make with room. More rules for a certificate's open nodes: a row of one's own: an element written, a piece of it, copied onto; the first part of a tight slice, made longer with noughts; a tight slice's room. Over any program. A slice of slices in memory, over any program: what it reads as, piece by piece; the sums and rows of its pieces. For slices.Concat. Rules for a certificate's open nodes, the last: a row of one's own: an element written, copied onto; a tight slice's first part made longer with noughts. Over any program. Rules for a certificate's open nodes: a piece of a row of one's own, copied onto; a tight slice's first part made longer with noughts. Over any program. Rules for a certificate's open nodes: a row of one's own that is grown and given up at once (what is made may be looked at by callees). Over any program. Rules for a certificate's open nodes: a conversion of a number. Over any program. Rules for a certificate's open nodes: the greater of two numbers; shifts; conversions between kinds of numbers. Over any program. A range over a map without entries, over abstract states: nothing is done. Over any program. Maps with any entries, over abstract states: a key put in, changed, looked up. Over any program. A box lent to a callee, what it holds behind the call known; a closure that calls itself; a key put into a map. Over any program. redo.number: the bytes of a record's number. -/
import Derived.Test.YtlcepboedifniaaGreatDoorVc
import Derived.Test.YtlcepboedifniaaGreatDoorChecked
import Derived.Test.YtlcepboedifniaaGreatDoorMrgA
import Derived.Lib.AppendZerosOnto
import Derived.Test.YtlcepboedifniaaGreatDoorMrgG
import Derived.MapKept
import Derived.Test.YtlcepboedifniaaGreatDoorRows
set_option linter.unusedVariables false
namespace Go.Proofs.YtlcepboedifniaaGreatDoor
open Go Go.RowKit Copyhold
noncomputable def dP (p : Prop) : Bool := @decide p (Classical.propDecidable p)
theorem dP_true {p : Prop} : dP p = true ↔ p := by unfold dP; simp
theorem dP_false {p : Prop} : dP p = false ↔ ¬ p := by unfold dP; simp
theorem dPt {p : Prop} (h : p) : true = dP p := (dP_true.2 h).symm
theorem dPf {p : Prop} (h : ¬ p) : false = dP p := (dP_false.2 h).symm
theorem dPe {b : Bool} {p : Prop} (h : b = true ↔ p) : b = dP p := by
  cases b with
  | true => exact dPt (h.1 rfl)
  | false => exact dPf fun hp => by cases h.2 hp
theorem dP_congr {p q : Prop} (h : p ↔ q) : dP p = dP q := congrArg dP (propext h)
theorem sT {p : Prop} (h : p) : Sub (aB true) (aB (dP p)) := Sub.of_eq (congrArg aB (dPt h))
theorem sF {p : Prop} (h : ¬ p) : Sub (aB false) (aB (dP p)) := Sub.of_eq (congrArg aB (dPf h))
theorem sE {b : Bool} {p : Prop} (h : b = true ↔ p) : Sub (aB b) (aB (dP p)) := Sub.of_eq (congrArg aB (dPe h))
section
variable {α β : Type}
theorem take_all {l : List α} {k : Nat} (h : l.length ≤ k) : l.take k = l := List.take_of_length_le h
theorem take_step {l : List α} {k : Nat} {x : α} (h : l[k]? = some x) : l.take (k + 1) = l.take k ++ [x] := by
  rw [List.take_add_one, h]; rfl
theorem lt_of_some {l : List α} {k : Nat} {x : α} (h : l[k]? = some x) : k < l.length := (List.getElem?_eq_some_iff.1 h).1
def AllTo (Q : Nat → α → Prop) (l : List α) (k : Nat) : Prop := ∀ i e, i < k → l[i]? = some e → Q i e
def AllQ (Q : Nat → α → Prop) (l : List α) : Prop := ∀ i e, l[i]? = some e → Q i e
theorem AllTo.zero (Q : Nat → α → Prop) (l : List α) : AllTo Q l 0 := fun i e h => by omega
theorem AllTo.step {Q : Nat → α → Prop} {l : List α} {k : Nat} {x : α} (h : AllTo Q l k) (hx : l[k]? = some x) (q : Q k x) : AllTo Q l (k + 1) := fun i e hi he => by
  by_cases hk : i = k
  · subst hk
    rw [hx] at he
    obtain rfl := Option.some.inj he
    exact q
  · exact h i e (by omega) he
theorem AllTo.full {Q : Nat → α → Prop} {l : List α} {k : Nat} (h : AllTo Q l k) (hk : l.length ≤ k) : AllQ Q l := fun i e he => h i e (by have := lt_of_some he; omega) he
theorem AllQ.at {Q : Nat → α → Prop} {l : List α} (h : AllQ Q l) {k : Nat} {x : α} (hx : l[k]? = some x) : Q k x := h k x hx
end
end Go.Proofs.YtlcepboedifniaaGreatDoor

set_option linter.unusedVariables false
set_option linter.unusedSimpArgs false
namespace Go.Proofs.YtlcepboedifniaaGreatDoor
open Go Go.RowKit Copyhold
abbrev Txt := List UInt8
structure Ent where
  name : Txt
  ino : Int
  deriving DecidableEq
structure Nod where
  ino : Int
  kind : Int
  links : Int
  text : Txt
  l : List Ent
  deriving DecidableEq
structure Ver where
  stamp : Int
  gone : Bool
  n : Nod
  deriving DecidableEq
structure Chn where
  ino : Int
  l : List Ver
  deriving DecidableEq
structure Cnt where
  stamp : Int
  next : Int
  deriving DecidableEq
structure Sto where
  l : List Chn
  nexts : List Cnt
  stamp : Int
  deriving DecidableEq
structure Fsy where
  l : List Nod
  next : Int
  deriving DecidableEq
def txA (t : Txt) : List AV := [aS t]
def I64 (n : Int) : Prop := -9223372036854775808 ≤ n ∧ n ≤ 9223372036854775807
end Go.Proofs.YtlcepboedifniaaGreatDoor

set_option linter.unusedVariables false
set_option linter.unusedSimpArgs false
namespace Go.Proofs.YtlcepboedifniaaGreatDoor
open Go Go.RowKit Copyhold
def rowR (q : Nat) (s : LS) : Option (Value × TypeId × Nat × List (List AV)) :=
  match bget s.bx q with
  | some (.row V e k xs) => some (V, e, k, xs)
  | _ => none
theorem rowR_ok {q : Nat} {s : LS} {V : Value} {e : TypeId} {k : Nat} {xs : List (List AV)} (h : rowR q s = some (V, e, k, xs)) : bget s.bx q = some (.row V e k xs) := by
  unfold rowR at h
  split at h
  · rename_i V' e' k' xs' hb
    simp only [Option.some.injEq, Prod.mk.injEq] at h
    obtain ⟨rfl, rfl, rfl, rfl⟩ := h
    exact hb
  · cases h
theorem rule_shape {P : Program} {V : Value} {e : TypeId} {k : Nat} {xs : List (List AV)} (q : Nat) (h0 : 0 < xs.length) :
    ∀ (c : Cx) (Q : Exit → FS → Prop) (code : Code) (s : LS), rowR q s = some (V, e, k, xs) → (∀ a : { p : Nat × Nat // V = .slice (some ⟨p.1, 0, none⟩) xs.length p.2 ∧ xs.length ≤ p.2 }, AWp c P code Q s.fs) → AWp c P code Q s.fs := by
  intro c Q code s h kk a w hr
  obtain ⟨hc, D, hR⟩ := id hr
  obtain ⟨hk, us, hown, _⟩ := (hR.bx q _ (rowR_ok h)).2
  rcases hown.2 with ⟨_, h0'⟩ | ⟨g, cap, cur, he, _, _, hnc, _⟩
  · omega
  · exact kk ⟨(g, cap), he, hnc⟩ a w hr
def ixR (P : Program) (ops : Array Oper) (s : LS) (i : Nat) : Option (Nat × Value × Nat × Nat × Int × Option Tmp) :=
  match opAt ops s i with
  | some o =>
    match o.op with
    | .indexAddr t x n =>
      match elemP P t, s.ev x, s.ev n with
      | some e, .rw q V m0, .val (.int .i64 m) =>
        match szP P e with
        | some k => some (q, V, m0, k, m, o.dst)
        | none => none
      | _, _, _ => none
    | _ => none
  | none => none
theorem rule_ixR {P : Program} {q b n cap m0 k : Nat} {V : Value} {m : Int} {d : Option Tmp} (j : Nat) (hV : V = .slice (some ⟨b, 0, none⟩) n cap) (hm : m = (j : Int)) (hj : j < n) :
    ∀ (ops : Array Oper) (i : Nat) (s : LS) (K : FS → Prop) (rest : List Nat), ixR P ops s i = some (q, V, m0, k, m, d) → (∀ a : Unit, SeqR P ops K rest (s.put d (.ep q V k j 0)).fs) → SeqR P ops K (i :: rest) s.fs := by
  intro ops i s K rest h kk
  unfold ixR at h
  split at h
  · rename_i o ho
    obtain ⟨hi, hg⟩ := opAt_ok ho
    split at h
    · rename_i t x n' hop
      split at h
      · rename_i e q' V' m0' m' hel hx hn
        split at h
        · rename_i k' hk'
          simp only [Option.some.injEq, Prod.mk.injEq] at h
          obtain ⟨rfl, rfl, rfl, rfl, rfl, rfl⟩ := h
          subst hV hm
          refine ⟨o, hi, .inr ⟨hg, .inl ⟨_, .inl fun D w ρ hops => ?_, by rw [LS.fs_put]; exact kk ()⟩⟩⟩
          have hvx := arg_of hops x (by simp [hop, Op.operands])
          have hvn := arg_of hops n' (by simp [hop, Op.operands])
          rw [hx] at hvx
          rw [hn] at hvn
          generalize hxv : ρ x = vx at hvx
          generalize hnv : ρ n' = vn at hvn
          cases hvn
          cases hvx
          refine ⟨.pointer (some ⟨b, j * k' + 0, none⟩), ?_, .ep ..⟩
          have h0 : (0 : Int) ≤ j ∧ (j : Int) < n := by omega
          simp [execOp, hop, hxv, hnv, Instr.indexAt, asIntOf, run_underlying (elemP_u hel), szP_run hk', h0, hj, add_plain']
        · cases h
      · cases h
    · cases h
  · cases h
theorem row_cells {D : Nat → Prop} {w : World} {b n cap : Nat} {e : TypeId} {k : Nat} {xs : List (List AV)} (h : BoxR D w (.row (.slice (some ⟨b, 0, none⟩) n cap) e k xs)) {j : Nat} {cs : List AV} (he : xs[j]? = some cs) : CellsAt D w b (j * k) cs := by
  obtain ⟨hk, us, hown, hus, hru⟩ := h
  intro p x hx
  have hf := flat_get hk j cs p x he hx
  have hl : j * k + p < us.length := by rw [hown.1, ← flat_len hk]; exact (List.getElem?_eq_some_iff.1 hf).1
  have hu := List.getElem?_eq_getElem hl
  rcases hown.2 with ⟨hV, _⟩ | ⟨g, cap', cur, hV, _⟩
  · cases hV
  · have hb := hown.cells (g := b) rfl _ _ hu
    rw [add_plain', Nat.zero_add] at hb
    exact ⟨_, hb, hus _ (List.mem_of_getElem? hu), hru _ x _ hf hu⟩
theorem callO_run {P : Program} {ops : Array Oper} {s : LS} {i : Nat} {f : FuncId} {args : List AV} {d : Option Tmp} (h : callO ops s i = some (f, args, d)) :
    ∃ o, ops[i]? = some o ∧ gd ops s.fs o = some true ∧ isRd P o.op = false ∧ o.dst = d ∧ ∀ (D : Nat → Prop) (w : World) (ρ : Operand → Value), opsR D w s.fs ρ o → ∃ vs, (execOp ρ o).run P w = (callFunc f vs).run P w ∧ RaAll D w args vs := by
  unfold callO at h
  split at h
  · rename_i o ho
    obtain ⟨hi, hg⟩ := opAt_ok ho
    split at h
    · rename_i c hop
      split at h
      · rename_i fo hc
        have hrd : isRd P o.op = false := by
          obtain ⟨callee, cargs, cts⟩ := c
          simp only at hc
          subst hc
          rw [hop]; rfl
        split at h
        · rename_i g' hfv
          simp only [Option.some.injEq, Prod.mk.injEq] at h
          obtain ⟨rfl, rfl, hd⟩ := h
          refine ⟨o, hi, hg, hrd, hd, fun D w ρ hops => ⟨c.args.map ρ, ?_, args_ra hop hops⟩⟩
          have hvf := arg_of hops fo (by simp [hop, Op.operands, Call.operands, hc])
          rw [hfv] at hvf
          generalize hfv' : ρ fo = vf at hvf
          cases hvf
          simp [execOp, hop, resolve, hc, hfv', Deferred.ofValue, invoke]
        · rename_i g' caps hfv
          simp only [Option.some.injEq, Prod.mk.injEq] at h
          obtain ⟨rfl, rfl, hd⟩ := h
          refine ⟨o, hi, hg, hrd, hd, fun D w ρ hops => ?_⟩
          have hvf := arg_of hops fo (by simp [hop, Op.operands, Call.operands, hc])
          rw [hfv] at hvf
          generalize hfv' : ρ fo = vf at hvf
          cases hvf with
          | clo g caps vs h1 h2 =>
            obtain ⟨a1, a2⟩ := args_ra hop hops
            refine ⟨c.args.map ρ ++ vs, by simp [execOp, hop, resolve, hc, hfv', Deferred.ofValue, invoke], by simp; omega, fun j x v hx hv => ?_⟩
            by_cases hj : j < (c.args.map ρ).size
            · rw [Array.getElem?_append_left hj] at hv
              rw [List.getElem?_append_left (by omega)] at hx
              exact a2 j x v hx hv
            · rw [Array.getElem?_append_right (by omega)] at hv
              rw [List.getElem?_append_right (by omega), a1] at hx
              exact h2 _ x v hx hv
        · cases h
      · cases h
    · cases h
  · cases h
end Go.Proofs.YtlcepboedifniaaGreatDoor

set_option linter.unusedVariables false
set_option linter.unusedSimpArgs false
namespace Go.Proofs.YtlcepboedifniaaGreatDoor
open Go Go.RowKit Copyhold
def gone : Bx := .row (.slice none 0 0) 0 0 []
end Go.Proofs.YtlcepboedifniaaGreatDoor

namespace Copyhold
open Go Go.RowKit
def cutA (A : Option Addr) (c i size : Nat) : Option Addr := if c = i then A else A.map (·.add (i * size))
theorem Sl.pre {w : World} {k : Nat} {A : Option Addr} {n c : Nat} {xs : List Value} (h : Sl w k (.slice A n c) n xs) (i : Nat) (hi : i ≤ n) : Sl w k (.slice A i c) i (xs.take (i * k)) := by
  obtain ⟨A', c', he, hc, hl, hh⟩ := h
  simp only [Value.slice.injEq] at he
  obtain ⟨rfl, _, rfl⟩ := he
  have hik : i * k ≤ n * k := Nat.mul_le_mul_right _ hi
  refine ⟨A, c, rfl, by omega, by rw [List.length_take]; omega, fun h0 => ?_⟩
  obtain ⟨b, off, rfl, hb, hcell⟩ := hh (by omega)
  refine ⟨b, off, rfl, hb, fun j x hx => hcell j x ?_⟩
  rw [List.getElem?_take] at hx
  split at hx
  · exact hx
  · cases hx
theorem Sl.post {w : World} {k : Nat} {A : Option Addr} {n c : Nat} {xs : List Value} (h : Sl w k (.slice A n c) n xs) (i : Nat) (hi : i ≤ n) : Sl w k (.slice (cutA A c i k) (n - i) (c - i)) (n - i) (xs.drop (i * k)) := by
  obtain ⟨A', c', he, hc, hl, hh⟩ := h
  simp only [Value.slice.injEq] at he
  obtain ⟨rfl, _, rfl⟩ := he
  refine ⟨_, _, rfl, by omega, by rw [List.length_drop, hl, Nat.sub_mul], fun h0 => ?_⟩
  obtain ⟨b, off, rfl, hb, hcell⟩ := hh (by omega)
  refine ⟨b, off + i * k, ?_, hb, fun j x hx => ?_⟩
  · rw [cutA, if_neg (by omega), Option.map_some, add_plain']
  · rw [Nat.add_assoc]
    refine hcell _ _ ?_
    rw [← hx, List.getElem?_drop]
end Copyhold

set_option linter.unusedVariables false
set_option linter.unusedSimpArgs false
namespace Go.Proofs.YtlcepboedifniaaGreatDoor
open Go Go.RowKit Copyhold
end Go.Proofs.YtlcepboedifniaaGreatDoor

set_option linter.unusedVariables false
namespace Copyhold
open Go Go.RowKit
abbrev Piece := Value × Nat × List Value
def Cats (w : World) (k : Nat) (v : Value) (ss : List Piece) : Prop :=
  Sl w 1 v ss.length (ss.map (·.1)) ∧ ∀ s ∈ ss, Sl w k s.1 s.2.1 s.2.2 ∧ ∀ u ∈ s.2.2, u.oneCell' = true
theorem Cats.below {w w' : World} {k : Nat} {v : Value} {ss : List Piece} (h : Cats w k v ss) (hb : Below w.heap.size w w') : Cats w' k v ss :=
  ⟨h.1.below hb, fun s hs => ⟨(h.2 s hs).1.below hb, (h.2 s hs).2⟩⟩
structure SlIs (w : World) (k : Nat) (A : Option Addr) (n c : Nat) (p : Piece) : Prop where
  n_is : p.2.1 = n
  sl : Sl w k (.slice A n c) n p.2.2
theorem Cats.at {w : World} {k : Nat} {A : Option Addr} {c : Nat} {ss : List Piece} (h : Cats w k (.slice A ss.length c) ss) (i : Nat) (hi : i < ss.length) :
    ∃ b off A' n' c', A = some ⟨b, off, none⟩ ∧ b < w.heap.size ∧ w.cell? ⟨b, off + i, none⟩ = some (.slice A' n' c') ∧ SlIs w k A' n' c' ss[i] ∧ ∀ u ∈ ss[i].2.2, u.oneCell' = true := by
  obtain ⟨h1, h2⟩ := h
  obtain ⟨b, off, rfl, hb, _, _, hcell⟩ := h1.at (by omega)
  obtain ⟨g1, g2⟩ := h2 ss[i] (List.getElem_mem _)
  obtain ⟨A', c', e, _, _⟩ := g1.shape
  refine ⟨b, off, A', ss[i].2.1, c', rfl, hb, ?_, ⟨rfl, by rw [← e]; exact g1⟩, g2⟩
  rw [← e]
  exact hcell i _ (by rw [List.getElem?_map, List.getElem?_eq_getElem hi]; rfl)
end Copyhold

set_option linter.unusedVariables false
set_option linter.unusedSimpArgs false
namespace Go.Proofs.YtlcepboedifniaaGreatDoor
open Go Go.RowKit Copyhold
def PW (D : Nat → Prop) (w : World) (ws : List AV) (us : List Value) : Prop := ∀ (j : Nat) (a : AV) (u : Value), ws[j]? = some a → us[j]? = some u → Ra D w a u
theorem PW.append {D : Nat → Prop} {w : World} {ws bs : List AV} {us vs : List Value} (hl : ws.length = us.length) (h : PW D w ws us) (k : PW D w bs vs) : PW D w (ws ++ bs) (us ++ vs) := fun j a u ha hu => by
  by_cases hj : j < ws.length
  · rw [List.getElem?_append_left hj] at ha
    rw [List.getElem?_append_left (by omega)] at hu
    exact h j a u ha hu
  · rw [List.getElem?_append_right (by omega)] at ha
    rw [List.getElem?_append_right (by omega), ← hl] at hu
    exact k _ a u ha hu
theorem PW.take {D : Nat → Prop} {w : World} {ws : List AV} {us : List Value} (h : PW D w ws us) (n : Nat) : PW D w (ws.take n) (us.take n) := fun j a u ha hu => by
  rw [List.getElem?_take] at ha hu
  split at ha
  · rename_i hj
    rw [if_pos hj] at hu
    exact h j a u ha hu
  · cases ha
theorem PW.drop {D : Nat → Prop} {w : World} {ws : List AV} {us : List Value} (h : PW D w ws us) (n : Nat) : PW D w (ws.drop n) (us.drop n) := fun j a u ha hu => by
  rw [List.getElem?_drop] at ha hu
  exact h _ a u ha hu
theorem take_put {α : Type} (L vs : List α) (a N : Nat) (h : a + vs.length ≤ N) (hN : N ≤ L.length) : (L.take a ++ vs ++ L.drop (a + vs.length)).take N = (L.take N).take a ++ vs ++ (L.take N).drop (a + vs.length) := by
  have e1 : (L.take N).take a = L.take a := by rw [List.take_take, Nat.min_eq_left (by omega)]
  rw [e1, List.take_append, List.take_of_length_le (by simp; omega)]
  congr 1
  rw [List.drop_take]
  congr 1
  simp
  omega
theorem row_put {P : Program} {D : Nat → Prop} {w : World} {b n cap : Nat} {e : TypeId} {k : Nat} {xs xs' : List (List AV)} (h : BoxR D w (.row (.slice (some ⟨b, 0, none⟩) n cap) e k xs)) (hnD : ¬ D b) {cs : List AV} {vs : List Value} (p : Nat)
    (hl : cs.length = vs.length) (h1 : ∀ u ∈ vs, u.oneCell' = true) (hv : PW D w cs vs) (hp : p + cs.length ≤ xs.length * k) (hk' : ∀ l ∈ xs', l.length = k) (hn' : xs'.length = xs.length)
    (hf : xs'.flatten = xs.flatten.take p ++ cs ++ xs.flatten.drop (p + cs.length)) :
    ∃ w', (storeCells ⟨b, p, none⟩ vs).run P w = .ok () w' ∧ BoxR D w' (.row (.slice (some ⟨b, 0, none⟩) n cap) e k xs') ∧ Below 0 w w' ∧ (∀ g, g ≠ b → w'.heap[g]? = w.heap[g]?) := by
  obtain ⟨hk, us, hown, hus, hru⟩ := h
  rcases hown.2 with ⟨hV, _⟩ | ⟨g, cap', cur, hV, hb, hgg, hnc, hmx, hsz, htake⟩
  · cases hV
  · simp only [Value.slice.injEq, Option.some.injEq, Addr.mk.injEq] at hV
    obtain ⟨⟨rfl, _⟩, rfl, rfl⟩ := hV
    have hle : xs.length * k ≤ cap * k := Nat.mul_le_mul_right _ hnc
    have hst := run_storeCells_at P b p e vs 0 cur w hgg (by omega) h1
    simp only [Nat.add_zero] at hst
    have hlen : us.length = xs.flatten.length := by rw [hown.1, flat_len hk]
    have hfl : xs.flatten.length = xs.length * k := flat_len hk
    have hheap := setRow_heap w b cur (cur.toList.take p ++ vs ++ cur.toList.drop (p + vs.length)).toArray e (0, 0) hgg
    have hoth : ∀ g, g ≠ b → (w.setRow b (cur.toList.take p ++ vs ++ cur.toList.drop (p + vs.length)).toArray).heap[g]? = w.heap[g]? := fun g hg => setRow_other _ _ _ _ hg
    have hsize : (w.setRow b (cur.toList.take p ++ vs ++ cur.toList.drop (p + vs.length)).toArray).heap.size = w.heap.size := by simp
    generalize hw' : w.setRow b (cur.toList.take p ++ vs ++ cur.toList.drop (p + vs.length)).toArray = w' at hst hheap hoth hsize
    have hos : Below 0 w w' := ⟨by rw [← hw']; rfl, by rw [← hw']; rfl, by rw [← hw']; rfl, by omega, fun k hk => by omega⟩
    have hfr : ∀ a u, Ra D w a u → Ra D w' a u := fun a u hu => hu.frame (fun _ h => h) (by omega) (fun g hd hl => hoth g (fun e => hnD (e ▸ hd)))
    refine ⟨w', hst, ⟨hk', us.take p ++ vs ++ us.drop (p + vs.length), ?_, fun u hu => ?_, ?_⟩, hos, hoth⟩
    · refine ⟨by rw [hn']; simp only [List.length_append, List.length_take, List.length_drop, Array.length_toList, List.size_toArray]; omega, .inr ⟨b, cap, _, by rw [hn'], Nat.zero_le _, hheap, by rw [hn']; exact hnc, hmx, by simp only [List.length_append, List.length_take, List.length_drop, Array.length_toList, List.size_toArray]; omega, ?_⟩⟩
      rw [hn', List.toList_toArray, take_put _ _ _ _ (by omega) (by simp only [Array.length_toList]; omega), htake]
    · rcases List.mem_append.1 hu with hu | hu
      · rcases List.mem_append.1 hu with hu | hu
        · exact hus u (List.mem_of_mem_take hu)
        · exact h1 u hu
      · exact hus u (List.mem_of_mem_drop hu)
    · have hP : PW D w xs'.flatten (us.take p ++ vs ++ us.drop (p + vs.length)) := by
        rw [hf, ← hl]
        exact PW.append (by simp only [List.length_append, List.length_take, List.length_drop, Array.length_toList, List.size_toArray]; omega) (PW.append (by simp only [List.length_append, List.length_take, List.length_drop, Array.length_toList, List.size_toArray]; omega) (PW.take hru p) hv) (PW.drop hru _)
      exact fun j a u ha hu => hfr a u (hP j a u ha hu)
theorem flat_take {α : Type} {k : Nat} : ∀ {xs : List (List α)} (n : Nat), (∀ l ∈ xs, l.length = k) → (xs.take n).flatten = xs.flatten.take (n * k)
  | [], n, _ => by simp
  | x :: r, 0, _ => by simp
  | x :: r, n + 1, h => by
    have hx := h x (List.mem_cons_self ..)
    have ih := flat_take (xs := r) n fun l hl => h l (List.mem_cons_of_mem _ hl)
    have e : (n + 1) * k = x.length + n * k := by rw [Nat.add_mul, hx]; omega
    rw [List.take_succ_cons, List.flatten_cons, List.flatten_cons, ih, e, List.take_length_add_append]
theorem flat_drop {α : Type} {k : Nat} : ∀ {xs : List (List α)} (n : Nat), (∀ l ∈ xs, l.length = k) → (xs.drop n).flatten = xs.flatten.drop (n * k)
  | [], n, _ => by simp
  | x :: r, 0, _ => by simp
  | x :: r, n + 1, h => by
    have hx := h x (List.mem_cons_self ..)
    have ih := flat_drop (xs := r) n fun l hl => h l (List.mem_cons_of_mem _ hl)
    have e : (n + 1) * k = x.length + n * k := by rw [Nat.add_mul, hx]; omega
    rw [List.drop_succ_cons, List.flatten_cons, ih, e, List.drop_length_add_append]
theorem flat_lenG {α : Type} {k : Nat} : ∀ {xs : List (List α)}, (∀ l ∈ xs, l.length = k) → xs.flatten.length = xs.length * k
  | [], _ => by simp
  | x :: r, h => by
    rw [List.flatten_cons, List.length_append, flat_lenG fun l hl => h l (List.mem_cons_of_mem _ hl), h x (List.mem_cons_self ..), List.length_cons, Nat.add_mul]
    omega
theorem flat_set {α : Type} {k j off : Nat} {xs : List (List α)} {ec cs : List α} (h : ∀ l ∈ xs, l.length = k) (he : xs[j]? = some ec) (hf : off + cs.length ≤ ec.length) :
    (xs.set j (ec.take off ++ cs ++ ec.drop (off + cs.length))).flatten = xs.flatten.take (j * k + off) ++ cs ++ xs.flatten.drop (j * k + off + cs.length) := by
  obtain ⟨hj, rfl⟩ := List.getElem?_eq_some_iff.1 he
  have hx : xs[j].length = k := h _ (List.getElem_mem hj)
  have h1 := flat_take j h
  have h2 := flat_drop (j + 1) h
  have e0 : xs = xs.take j ++ xs[j] :: xs.drop (j + 1) := by rw [← List.drop_eq_getElem_cons hj, List.take_append_drop]
  have hl1 : (xs.take j).flatten.length = j * k := by
    have hle : j * k ≤ xs.length * k := Nat.mul_le_mul_right _ (by omega)
    have := flat_lenG h
    rw [h1, List.length_take]; omega
  have e1 : xs.flatten = (xs.take j).flatten ++ (xs[j] ++ (xs.drop (j + 1)).flatten) := by
    conv => lhs; rw [e0]
    rw [List.flatten_append, List.flatten_cons]
  rw [List.set_eq_take_append_cons_drop, if_pos hj, List.flatten_append, List.flatten_cons, e1]
  generalize (xs.take j).flatten = A at *
  generalize (xs.drop (j + 1)).flatten = B at *
  generalize xs[j] = ec at *
  rw [← hl1, List.take_length_add_append, Nat.add_assoc, List.drop_length_add_append, List.take_append_of_le_length (by omega), List.drop_append_of_le_length (by omega)]
  simp only [List.append_assoc]
theorem set_len {α : Type} {k j off : Nat} {xs : List (List α)} {ec cs : List α} (h : ∀ l ∈ xs, l.length = k) (he : xs[j]? = some ec) (hf : off + cs.length ≤ ec.length) : ∀ l ∈ xs.set j (ec.take off ++ cs ++ ec.drop (off + cs.length)), l.length = k := fun l hl => by
  rcases List.mem_or_eq_of_mem_set hl with hl | rfl
  · exact h l hl
  · have := h ec (List.mem_of_getElem? he)
    simp
    omega
def stR (P : Program) (ops : Array Oper) (s : LS) (i : Nat) : Option (Nat × Value × Nat × Nat × Nat × Value × TypeId × Nat × List (List AV) × List AV × Option Tmp) :=
  match opAt ops s i with
  | some o =>
    match o.op with
    | .store t a x =>
      match s.ev a, cellsA (s.ev x), szP P t with
      | .ep q V k j off, some cs, some n =>
        match bget s.bx q with
        | some (.row V' e k' xs) => bif Nat.beq cs.length n then some (q, V, k, j, off, V', e, k', xs, cs, o.dst) else none
        | _ => none
      | _, _, _ => none
    | _ => none
  | none => none
theorem rule_stR {P : Program} {q k j off : Nat} {V : Value} {e : TypeId} {xs : List (List AV)} {cs : List AV} {d : Option Tmp} (ec : List AV) (he : xs[j]? = some ec) (hf : off + cs.length ≤ ec.length) :
    ∀ (ops : Array Oper) (i : Nat) (s : LS) (K : FS → Prop) (rest : List Nat), stR P ops s i = some (q, V, k, j, off, V, e, k, xs, cs, d) → (∀ a : Unit, SeqR P ops K rest ((s.put d .any).setB q (.row V e k (xs.set j (ec.take off ++ cs ++ ec.drop (off + cs.length))))).fs) → SeqR P ops K (i :: rest) s.fs := by
  intro ops i s K rest h kk
  unfold stR at h
  split at h
  · rename_i o ho
    obtain ⟨hi, hg⟩ := opAt_ok ho
    split at h
    · rename_i t a x hop
      split at h
      · rename_i q' V' k' j' off' cs' n ha hx hn
        split at h
        · rename_i V2 e2 k2 xs' hb
          cases hbq : Nat.beq cs'.length n with
          | false => rw [hbq] at h; cases h
          | true =>
            rw [hbq] at h
            simp only [cond_true, Option.some.injEq, Prod.mk.injEq] at h
            obtain ⟨rfl, rfl, rfl, rfl, rfl, rfl, rfl, rfl, rfl, rfl, rfl⟩ := h
            have hcn := Nat.eq_of_beq_eq_true hbq
            refine ⟨o, hi, .inr ⟨hg, .inr (.inr ⟨by rw [hop]; rfl, by rw [hop]; rfl, q', fun z y' => z = .any ∧ y' = .row V2 e2 k2 (xs'.set j' (ec.take off' ++ cs' ++ ec.drop (off' + cs'.length))), ?_, ?_⟩)⟩⟩
            · refine MutOK.up ?_
              intro D w ac Q K' hD hops hbx hnd hcont
              have hva := arg_of hops a (by simp [hop, Op.operands])
              have hvx := arg_of hops x (by simp [hop, Op.operands])
              rw [ha] at hva
              generalize hav : ac.eval a = va at hva
              generalize hxv : ac.eval x = vx at hvx
              have hrep := cellsA_ok hx hvx
              have hbox := hbx q' _ hb
              have hk := hbox.1
              have hecl : ec.length = k2 := hk ec (List.mem_of_getElem? he)
              cases hva with
              | ep id b n0 cap k i off =>
                have hnD : ¬ D b := hnd _ b hb rfl
                have hjl : j' < xs'.length := (List.getElem?_eq_some_iff.1 he).1
                have hjk : j' * k2 + k2 ≤ xs'.length * k2 := by have := Nat.mul_le_mul_right k2 (show j' + 1 ≤ xs'.length from hjl); rw [Nat.add_mul] at this; omega
                obtain ⟨w', h1, h2, h3, h4⟩ := row_put (P := P) hbox hnD (cs := cs') (vs := vx.cells.toList) (j' * k2 + off') (by simpa using hrep.1.symm) (fun u hu => by
                  obtain ⟨p, hp⟩ := List.mem_iff_getElem?.1 hu
                  exact hrep.2.1 p u (by simpa using hp)) (fun p a u ha hu => hrep.2.2 p a u ha (by simpa using hu)) (by omega) (set_len hk he hf) (by simp) (flat_set hk he hf)
                have hrun : (execOp ac.eval o).run P w = .ok .skip w' := by
                  simp [execOp, hop, hav, hxv, Instr.storeAt, Instr.sureAddr, storeVar, szP_run hn, hrep.1, hcn, h1]
                unfold Oper.wp
                rw [hrun, Oper.upon_skip]
                exact hcont undef w' .any _ _ ⟨rfl, rfl⟩ hb h3 (fun g hg _ => h4 g (fun e => hg (by rw [e]; rfl))) (fun g hg => ⟨.inl hg, hnd _ g hb hg⟩) h2 (.any _)
            · rintro z y' ⟨rfl, rfl⟩
              rw [LS.fs_put, LS.fs_setB]
              exact kk ()
        · cases h
      · cases h
    · cases h
  · cases h
end Go.Proofs.YtlcepboedifniaaGreatDoor

set_option linter.unusedVariables false
set_option linter.unusedSimpArgs false
namespace Go.Proofs.YtlcepboedifniaaGreatDoor
open Go Go.RowKit Copyhold
def cpR (P : Program) (ops : Array Oper) (s : LS) (i : Nat) : Option (Nat × Value × Nat × Nat × Value × TypeId × Nat × List (List AV) × Nat × List (List AV) × Nat × Option Tmp) :=
  match opAt ops s i with
  | some o =>
    match o.op with
    | .call c =>
      match c.callee, c.args.toList, c.argTypes.toList with
      | .builtin .copy, [x, y], [dT, sT] =>
        match s.ev x, s.ev y, elemP P dT with
        | .rs q V k lo, .sl k2 _ ys, some e' =>
          match szP P e', bget s.bx q with
          | some k3, some (.row V' e k' xs) => some (q, V, k, lo, V', e, k', xs, k2, ys, k3, o.dst)
          | _, _ => none
        | _, _, _ => none
      | _, _, _ => none
    | _ => none
  | none => none
theorem sl_len {D : Nat → Prop} {w : World} {k : Nat} {t : Bool} {ys : List (List AV)} {v : Value} (h : Ra D w (.sl k t ys) v) : ∀ l ∈ ys, l.length = k := fun l hl => by
  cases h with
  | sl k t xs A c b off vs h1 h2 h3 h4 h5 h6 =>
    obtain ⟨q, hq⟩ := List.mem_iff_getElem?.1 hl
    exact h4 q l hq
theorem firstCells_sl {P : Program} {w : World} {k n c : Nat} {A : Option Addr} {us : List Value} (h : Sl w k (.slice A n c) n us) : (Builtin.firstCells k n (.slice A n c)).run P w = .ok us.toArray w := by
  obtain ⟨A', c', he, hc, hl, hh⟩ := h
  simp only [Value.slice.injEq] at he
  obtain ⟨rfl, _, rfl⟩ := he
  cases A with
  | some a =>
    refine run_firstCells_some (w := w) k n a n c us hl fun j v hv => ?_
    by_cases h0 : 0 < n
    · obtain ⟨b, off, ha, hb, hcell⟩ := hh h0
      obtain rfl := Option.some.inj ha
      rw [add_plain']
      exact hcell j v hv
    · have : us = [] := List.eq_nil_of_length_eq_zero (by rw [hl, show n = 0 from by omega]; simp)
      subst this
      simp at hv
  | none =>
    have h0 : ¬ 0 < n := fun h0 => by obtain ⟨b, off, ha, _⟩ := hh h0; cases ha
    have : us = [] := List.eq_nil_of_length_eq_zero (by rw [hl, show n = 0 from by omega]; simp)
    subst this
    exact run_firstCells_none (w := w) k n n c
theorem rule_cpR {P : Program} {q k lo : Nat} {V : Value} {e : TypeId} {xs ys : List (List AV)} {d : Option Tmp} (hl : lo + ys.length ≤ xs.length) :
    ∀ (ops : Array Oper) (i : Nat) (s : LS) (K : FS → Prop) (rest : List Nat), cpR P ops s i = some (q, V, k, lo, V, e, k, xs, k, ys, k, d) → (∀ a : Unit, SeqR P ops K rest ((s.put d (aI (ys.length : Int))).setB q (.row V e k (xs.take lo ++ ys ++ xs.drop (lo + ys.length)))).fs) → SeqR P ops K (i :: rest) s.fs := by
  intro ops i s K rest h kk
  unfold cpR at h
  split at h
  · rename_i o ho
    obtain ⟨hi, hg⟩ := opAt_ok ho
    split at h
    · rename_i c hop
      split at h
      · rename_i x y dT sT hc hca ht
        split at h
        · rename_i q' V' k' lo' k2 tt ys' e' hx hy he'
          split at h
          · rename_i k3 V2 e2 k4 xs' hk3 hb
            simp only [Option.some.injEq, Prod.mk.injEq] at h
            obtain ⟨rfl, rfl, rfl, rfl, rfl, rfl, rfl, rfl, rfl, rfl, rfl, rfl⟩ := h
            obtain ⟨callee, args, cts⟩ := c
            simp only at hc hca ht
            subst hc
            have ha' : args = #[x, y] := by have := congrArg List.toArray hca; simpa using this
            have ht' : cts = #[dT, sT] := by have := congrArg List.toArray ht; simpa using this
            subst ha' ht'
            refine ⟨o, hi, .inr ⟨hg, .inr (.inr ⟨by rw [hop]; rfl, by rw [hop]; rfl, q', fun z y' => z = aI (ys'.length : Int) ∧ y' = .row V2 e2 k3 (xs'.take lo' ++ ys' ++ xs'.drop (lo' + ys'.length)), ?_, ?_⟩)⟩⟩
            · refine MutOK.up ?_
              intro D w ac Q K' hD hops hbx hnd hcont
              have hvx := arg_of hops x (by simp [hop, Op.operands, Call.operands])
              have hvy := arg_of hops y (by simp [hop, Op.operands, Call.operands])
              rw [hx] at hvx
              rw [hy] at hvy
              generalize hxv : ac.eval x = vx at hvx
              generalize hyv : ac.eval y = vy at hvy
              have hbox := hbx q' _ hb
              have hk := hbox.1
              have hky := sl_len hvy
              obtain ⟨us, hsl, hus, hru⟩ := sl_of_ra hvy
              obtain ⟨A, c, rfl, hcl, hul, hcells⟩ := id hsl
              have hfc := firstCells_sl (P := P) hsl
              cases hvx with
              | rs id b n cap k lo hlo =>
                have hnD : ¬ D b := hnd _ b hb rfl
                obtain ⟨_, us0, hown0, _⟩ := id hbox
                have hn : n = xs'.length := by
                  rcases hown0.2 with ⟨hV, _⟩ | ⟨g, cap', cur, hV, _⟩
                  · cases hV
                  · simp only [Value.slice.injEq] at hV
                    exact hV.2.1
                have hmul : (lo' + ys'.length) * k3 = lo' * k3 + ys'.length * k3 := Nat.add_mul ..
                have hfy : ys'.flatten.length = ys'.length * k3 := flat_lenG hky
                have hmin : Nat.min ys'.length (n - lo') = ys'.length := Nat.min_eq_left (by omega)
                obtain ⟨w', h1, h2, h3, h4⟩ := row_put (P := P) hbox hnD (cs := ys'.flatten) (vs := us) (xs' := xs'.take lo' ++ ys' ++ xs'.drop (lo' + ys'.length)) (lo' * k3) (by omega) hus hru (by rw [hfy, ← hmul]; exact Nat.mul_le_mul_right _ hl)
                  (fun l hl' => by
                    rcases List.mem_append.1 hl' with h | h
                    · rcases List.mem_append.1 h with h | h
                      · exact hk l (List.mem_of_mem_take h)
                      · exact hky l h
                    · exact hk l (List.mem_of_mem_drop h))
                  (by simp only [List.length_append, List.length_take, List.length_drop]; omega)
                  (by rw [List.flatten_append, List.flatten_append, flat_take _ hk, flat_drop _ hk, hmul, hfy])
                have hrun : (execOp ac.eval o).run P w = .ok (.value (goInt ys'.length)) w' := by
                  simp [execOp, hop, resolve, invoke, builtin, hxv, hyv, Builtin.copy_, run_underlying (elemP_u he'), Builtin.lenOf, szP_run hk3, hmin, hfc, h1]
                unfold Oper.wp
                rw [hrun, Oper.upon_value]
                exact hcont _ w' _ _ _ ⟨rfl, rfl⟩ hb h3 (fun g hg _ => h4 g (fun e => hg (by rw [e]; rfl))) (fun g hg => ⟨.inl hg, hnd _ g hb hg⟩) h2 (.val _)
            · rintro z y' ⟨rfl, rfl⟩
              rw [LS.fs_put, LS.fs_setB]
              exact kk ()
          · cases h
        · cases h
      · cases h
    · cases h
  · cases h
end Go.Proofs.YtlcepboedifniaaGreatDoor

set_option linter.unusedVariables false
set_option linter.unusedSimpArgs false
namespace Go.Proofs.YtlcepboedifniaaGreatDoor
open Go Go.RowKit Copyhold
end Go.Proofs.YtlcepboedifniaaGreatDoor

set_option linter.unusedVariables false
set_option linter.unusedSimpArgs false
namespace Go.Proofs.YtlcepboedifniaaGreatDoor
open Go Go.RowKit Copyhold
def cvR (ops : Array Oper) (s : LS) (i : Nat) : Option (TypeId × TypeId × Value × Option Tmp) :=
  match opAt ops s i with
  | some o =>
    match o.op with
    | .convert a b y =>
      match s.ev y with
      | .val v => some (a, b, v, o.dst)
      | _ => none
    | _ => none
  | none => none
theorem rule_cv {P : Program} {a b : TypeId} {v u : Value} {d : Option Tmp} (hc : ∀ w, (Go.convert a b v).run P w = .ok u w) :
    ∀ (ops : Array Oper) (i : Nat) (s : LS) (K : FS → Prop) (rest : List Nat), cvR ops s i = some (a, b, v, d) → (∀ _ : Unit, SeqR P ops K rest (s.put d (.val u)).fs) → SeqR P ops K (i :: rest) s.fs := by
  intro ops i s K rest h kk
  unfold cvR at h
  split at h
  · rename_i o ho
    obtain ⟨hi, hg⟩ := opAt_ok ho
    split at h
    · rename_i a' b' y hop
      split at h
      · rename_i v' hy
        simp only [Option.some.injEq, Prod.mk.injEq] at h
        obtain ⟨rfl, rfl, rfl, rfl⟩ := h
        refine ⟨o, hi, .inr ⟨hg, .inl ⟨.val u, .inl ?_, ?_⟩⟩⟩
        · intro D w ρ hops
          have hv := arg_of hops y (by simp [hop, Op.operands])
          rw [hy] at hv
          have hvv : ρ y = v' := by
            generalize ρ y = z at hv
            cases hv
            rfl
          exact ⟨u, by simp [execOp, hop, hvv, hc w], .val _⟩
        · rw [LS.fs_put]; exact kk ()
      · cases h
    · cases h
  · cases h
end Go.Proofs.YtlcepboedifniaaGreatDoor

set_option linter.unusedVariables false
set_option linter.unusedSimpArgs false
namespace Go.Proofs.YtlcepboedifniaaGreatDoor
open Go Go.RowKit Copyhold
theorem conv_int {P : Program} {a b : TypeId} {k k' : IntKind} {n : Int} (ha : P.underlying a = some (.int k)) (hb : P.underlying b = some (.int k')) (hw : rng k' n) : ∀ w, (Go.convert a b (.int k n)).run P w = .ok (.int k' n) w := fun w => by
  simp [Go.convert, run_underlying ha, run_underlying hb, Conv.intToInt, rng_wrap hw]
theorem rngu {z : Int} (h1 : 0 ≤ z) (h2 : z ≤ 18446744073709551615) : rng .u64 z := ⟨h1, h2⟩
end Go.Proofs.YtlcepboedifniaaGreatDoor

set_option linter.unusedVariables false
set_option linter.unusedSimpArgs false
namespace Go.Proofs.YtlcepboedifniaaGreatDoor
open Go Go.RowKit Copyhold
end Go.Proofs.YtlcepboedifniaaGreatDoor

set_option linter.unusedVariables false
set_option linter.unusedSimpArgs false
namespace Go.Proofs.YtlcepboedifniaaGreatDoor
open Go Go.RowKit Copyhold
end Go.Proofs.YtlcepboedifniaaGreatDoor

set_option linter.unusedVariables false
set_option linter.unusedSimpArgs false
namespace Go.Proofs.YtlcepboedifniaaGreatDoor
open Go Go.RowKit Copyhold
end Go.Proofs.YtlcepboedifniaaGreatDoor

set_option linter.unusedVariables false
namespace Go.Proofs.YtlcepboedifniaaGreatDoor
open Go.RowKit Copyhold
def num8 (n : Int) : List UInt8 := (List.range 8).map fun i => UInt8.ofNat (n.toNat / 2 ^ (8 * i) % 256)
theorem num8_len (n : Int) : (num8 n).length = 8 := by simp [num8]
def numV (n : Int) (k : Nat) : Array Value := ((List.range 8).map fun i => Value.int .u8 (if i < k then n / 2 ^ (8 * i) % 256 else 0)).toArray
theorem numV_size (n : Int) (k : Nat) : (numV n k).size = 8 := by simp [numV]
theorem numV_at (n : Int) (k i : Nat) (h : i < 8) : (numV n k)[i]? = some (.int .u8 (if i < k then n / 2 ^ (8 * i) % 256 else 0)) := by simp [numV, h]
theorem numV_set (n : Int) (k : Nat) (h : k < 8) : (numV n k).setIfInBounds k (.int .u8 (n / 2 ^ (8 * k) % 256)) = numV n (k + 1) := by
  apply Array.ext_getElem?
  intro i
  by_cases hi : i < 8
  · rw [Array.getElem?_setIfInBounds, numV_at _ _ _ hi, numV_at _ _ _ hi]
    by_cases hk : k = i
    · subst hk
      simp [numV_size, h]
    · rw [if_neg hk]
      have e : (i < k) = (i < k + 1) := by simp only [eq_iff_iff]; omega
      simp only [e]
  · rw [Array.getElem?_eq_none (by rw [Array.size_setIfInBounds, numV_size]; omega), Array.getElem?_eq_none (by rw [numV_size]; omega)]
theorem zero_num (n : Int) (w : World) : Sem.run Tryz.prog (zeroValue 84) w = .ok (.agg (numV n 0)) w := by kernel_rfl
def numW (w : World) (n : Int) (k : Nat) : World := w.alloc (.cells (numV n k) 84)
set_option maxRecDepth 100000 in
set_option maxHeartbeats 1000000 in
theorem number_old (n : Int) (h0 : 0 ≤ n) (h1 : n ≤ 18446744073709551615) (w : World) :
    Calls Tryz.prog 31 #[.int .u64 n] w fun e w' => e = .returned (.string ⟨(num8 n).toArray⟩) ∧ Below w.heap.size w w' := by
  have hz := zero_num n
  go_enter Tryz.func31, Tryz.ntmps31
  go_wp2_with fail
  have e0 : w.alloc (.cells (numV n 0) 84) = numW w n 0 := rfl
  rw [e0]
  clear e0 hz
  go_loopw [5] (fun i wr => ∃ k : Nat, k ≤ 8 ∧ i = .int .i64 k ∧ wr = numW w n k) (fun i _ => 8 - (intOf i).toNat)
  case atStart => exact ⟨0, by decide, rfl, rfl⟩
  case round =>
    obtain ⟨k, hk, rfl, rfl⟩ := hrel
    by_cases hlt : k < 8
    · have HS := Lib.hid (numV_set n k hlt)
      have hki : (k : Int) < 8 := by omega
      have hc : (numV n k)[k]? = some (.int .u8 0) := by rw [numV_at _ _ _ hlt, if_neg (by omega)]
      unfold numW
      go_wp2_with fail
      exact ⟨⟨k + 1, by omega, by go_num, by rw [HS.out]⟩, by simp [intOf]; omega⟩
    · obtain rfl : k = 8 := by omega
      have hcv : (convert 63 9 (.slice (some ⟨w.heap.size, 0, none⟩) 8 8)).run Tryz.prog (numW w n 8) = .ok (.string ⟨(num8 n).toArray⟩) (numW w n 8) := by
        have h := run_convert_bytes_arg (P := Tryz.prog) (numW w n 8) 63 5 Tryz.underlying63 Tryz.underlying5 w.heap.size 0 8 8 ((List.range 8).map fun i => n / 2 ^ (8 * i) % 256) (by simp) (fun i hi => by
          have hc := (TBox.new w 84 (numV n 8)).cell i
          rw [numV_at _ _ _ hi, if_pos hi] at hc
          have e : ((List.range 8).map fun i => n / 2 ^ (8 * i) % 256).getD i 0 = n / 2 ^ (8 * i) % 256 := by simp [List.getD, hi]
          rw [e]
          have hadd : (⟨w.heap.size, 0, none⟩ : Addr).add i = ⟨w.heap.size, i, none⟩ := by unfold Addr.add; split <;> simp_all
          first | exact hc | (rw [hadd]; exact hc) | (simp only [Nat.zero_add]; exact hc)) 9 Tryz.underlying9
        rw [h]
        congr 2
        unfold strOfNums num8
        congr 2
        simp only [List.map_map]
        refine List.map_congr_left fun i hi => ?_
        show UInt8.ofNat (n / 2 ^ (8 * i) % 256).toNat = _
        congr 1
        obtain ⟨m, rfl⟩ := Int.eq_ofNat_of_zero_le h0
        norm_cast
      have HB : Below w.heap.size w (numW w n 8) := (Below.refl _ _).alloc (Nat.le_refl _) _
      have HB := Lib.hid HB
      have hci := (TBox.new w 84 (numV n 8))
      go_wp2_with fail
      go_ret
      exact ⟨rfl, HB.out⟩
end Go.Proofs.YtlcepboedifniaaGreatDoor
