/- Walks over abstract states: '==' of structs of numbers and texts, by a lemma on the type. Over any program. A slice's literal as a row of one's own, to be grown. Over any program. No conditions beyond each law's own. The check of a drawn region's order, cheap things first. Over any program. No conditions beyond each law's own. How a law's row is closed once its call is known to return true and to leave old memory as it was: over any program, any parameters that can be read. A slice of whatever elements among the arguments, element by element: what it reads as, and its bounds. Over any program. Between slices as they stand in memory, element by element, and abstract ones; contracts of both kinds. Over any program. No conditions beyond each law's own. -/
import Derived.Test.YtlcepboedifniaaGreatDoorMrgF
import Derived.Laws.StructEq
import Derived.Test.YtlcepboedifniaaGreatDoorAbs2
import Derived.WalkKit
import Derived.ProofKit
import Derived.OpenShut
import Derived.ShutString
import Derived.JoinedCond
import Derived.Carry
import Derived.SliceStrings
import Derived.SizedLaws
import Derived.Lib.SmallJoins
import Derived.Test.YtlcepboedifniaaGreatDoorMrgA
import Derived.Deep.Slices
set_option linter.unusedVariables false
set_option linter.unusedSimpArgs false
namespace Go.Proofs.YtlcepboedifniaaGreatDoor
open Go.RowKit Copyhold
def eqFs (P : Program) (rec : TypeId → AV → AV → Option Bool) (xs ys : List AV) : List Field → Option Bool
  | [] => some true
  | f :: fs =>
    bif f.name == "_" then none else
    match partA P f.type (xs.drop f.offset), partA P f.type (ys.drop f.offset) with
    | some a, some b =>
      match rec f.type a b, eqFs P rec xs ys fs with
      | some r, some q => some (r && q)
      | _, _ => none
    | _, _ => none
def eqA (P : Program) : Nat → TypeId → AV → AV → Option Bool
  | 0, _, _, _ => none
  | d + 1, t, x, y =>
    match P.underlying t, x, y with
    | some (.int _), .val (.int .i64 a), .val (.int .i64 b) => some (a == b)
    | some (.int _), .val (.int .u8 a), .val (.int .u8 b) => some (a == b)
    | some (.int _), .val (.int .u64 a), .val (.int .u64 b) => some (a == b)
    | some .bool, .val (.bool a), .val (.bool b) => some (a == b)
    | some .string, .val (.string ⟨⟨a⟩⟩), .val (.string ⟨⟨b⟩⟩) => some (a == b)
    | some (.struct fs), .agg xs, .agg ys => bif P.stoodInHeld t then none else eqFs P (eqA P d) xs ys fs.toList
    | _, _, _ => none
theorem eqA_ok {P : Program} : ∀ (d : Nat) (t : TypeId) (x y : AV) (b : Bool), eqA P d t x y = some b → ∀ (D : Nat → Prop) (w : World) (u v : Value), Ra D w x u → Ra D w y v → ∀ k, (Op.equalIn (d + k) t u v).run P w = .ok b w
  | 0, _, _, _, _, h => by cases h
  | d + 1, t, x, y, b, h => by
    intro D w u v hu hv k
    rw [show d + 1 + k = (d + k) + 1 by omega]
    unfold eqA at h
    split at h
    · rename_i e
      cases hu; cases hv; cases h
      simp [Op.equalIn, run_underlying e]
    · rename_i e
      cases hu; cases hv; cases h
      simp [Op.equalIn, run_underlying e]
    · rename_i e
      cases hu; cases hv; cases h
      simp [Op.equalIn, run_underlying e]
    · rename_i e
      cases hu; cases hv; cases h
      simp [Op.equalIn, run_underlying e]
    · rename_i e
      cases hu; cases hv; cases h
      simp [Op.equalIn, run_underlying e, beq_toListBytes]
    · rename_i fs xs ys e
      cases hst : P.stoodInHeld t with
      | true => simp [hst] at h
      | false =>
      simp only [hst, cond_false] at h
      cases hu with
      | agg _ us a1 a2 a3 =>
      cases hv with
      | agg _ vs b1 b2 b3 =>
      have hf : P.fieldsOf t = fs := by simp [Program.fieldsOf, e]
      rw [run_equalIn_agg (ht := by rw [hf]; exact e) (hp := hst), hf]
      revert h
      generalize fs.toList = l
      intro h
      clear hf e
      induction l generalizing b with
      | nil => simp only [eqFs, Option.some.injEq] at h; subst h; simp [Op.eqFields]
      | cons f l ih =>
        unfold eqFs at h
        cases hn : (f.name == "_") with
        | true => simp [hn] at h
        | false =>
        simp only [hn, cond_false] at h
        split at h
        · rename_i a c ha hc
          split at h
          · rename_i r q hr hq
            cases h
            obtain ⟨va, ra, ha'⟩ := part_run (P := P) (w := w) (D := D) ⟨a1.symm, a2, a3⟩ ha
            obtain ⟨vc, rc, hc'⟩ := part_run (P := P) (w := w) (D := D) ⟨b1.symm, b2, b3⟩ hc
            have hb := eqA_ok d f.type a c r hr D w va vc ha' hc' k
            have hi := ih q hq
            unfold Op.eqFields
            rw [if_pos (by simpa using hn)]
            simp only [Sem.run_bind, ra, rc, hb, Result.andThen_ok, Sem.run_ite, Sem.run_pure]
            cases r
            · simp
            · simpa using hi
          · cases h
        · cases h
    · cases h
def eqO (P : Program) (ops : Array Oper) (s : LS) (i : Nat) : Option (Nat × Bool) :=
  match opAt ops s i with
  | some o =>
    match o.op, o.dst with
    | .binOp op t x y _, some d =>
      match P.underlying t, op, s.ev x, s.ev y with
      | some (.struct _), .eql, .agg xs, .agg ys =>
        bif P.eqGuardType P.depth t then none else match eqA P 20 t (.agg xs) (.agg ys) with
        | some b => some (d, b)
        | none => none
      | some (.struct _), .neq, .agg xs, .agg ys =>
        bif P.eqGuardType P.depth t then none else match eqA P 20 t (.agg xs) (.agg ys) with
        | some b => some (d, !b)
        | none => none
      | _, _, _, _ => none
    | _, _ => none
  | none => none
theorem seqEqS {P : Program} {ops : Array Oper} {K : FS → Prop} {rest : List Nat} {i : Nat} {s s' : LS} {d : Nat} {b : Bool} (h : eqO P ops s i = some (d, b))
    (hs : s.put (some d) (.val (.bool b)) = s') (kk : SeqR P ops K rest s'.fs) : SeqR P ops K (i :: rest) s.fs := by
  unfold eqO at h
  split at h
  · rename_i o ho
    obtain ⟨hi, hg⟩ := opAt_ok ho
    split at h
    · rename_i op t x y yt d' hop hd
      split at h
      · rename_i fs xs ys hu hx hy
        cases hgt : P.eqGuardType P.depth t with
        | true => simp [hgt] at h
        | false =>
        simp only [hgt, cond_false] at h
        split at h
        · rename_i b' hb
          cases h
          refine ⟨o, hi, .inr ⟨hg, .inl ⟨.val (.bool b), .inl fun D w ρ hops => ?_, by rw [hd, LS.fs_put, hs]; exact kk⟩⟩⟩
          have hvx := arg_of hops x (by simp [hop, Op.operands])
          have hvy := arg_of hops y (by simp [hop, Op.operands])
          rw [hx] at hvx
          rw [hy] at hvy
          have hq := eqA_ok 20 t _ _ b hb D w _ _ hvx hvy 9980
          generalize hxv : ρ x = u at hvx hq
          generalize hyv : ρ y = v at hvy hq
          cases hvx with
          | agg _ us a1 a2 a3 =>
          cases hvy with
          | agg _ vs c1 c2 c3 =>
          refine ⟨_, ?_, .val _⟩
          have hq' : (Op.equalIn 10000 t (.agg us) (.agg vs)).run P w = .ok b w := hq
          simp [execOp, hop, hxv, hyv, run_eqGuard_agg _ _ _ _ _ _ _ hgt, run_eql_struct, hq']
        · cases h
      · rename_i fs xs ys hu hx hy
        cases hgt : P.eqGuardType P.depth t with
        | true => simp [hgt] at h
        | false =>
        simp only [hgt, cond_false] at h
        split at h
        · rename_i b' hb
          cases h
          refine ⟨o, hi, .inr ⟨hg, .inl ⟨.val (.bool (!b')), .inl fun D w ρ hops => ?_, by rw [hd, LS.fs_put, hs]; exact kk⟩⟩⟩
          have hvx := arg_of hops x (by simp [hop, Op.operands])
          have hvy := arg_of hops y (by simp [hop, Op.operands])
          rw [hx] at hvx
          rw [hy] at hvy
          have hq := eqA_ok 20 t _ _ b' hb D w _ _ hvx hvy 9980
          generalize hxv : ρ x = u at hvx hq
          generalize hyv : ρ y = v at hvy hq
          cases hvx with
          | agg _ us a1 a2 a3 =>
          cases hvy with
          | agg _ vs c1 c2 c3 =>
          refine ⟨_, ?_, .val _⟩
          have hq' : (Op.equalIn 10000 t (.agg us) (.agg vs)).run P w = .ok b' w := hq
          simp [execOp, hop, hxv, hyv, run_eqGuard_agg _ _ _ _ _ _ _ hgt, run_neq_struct, hq']
        · cases h
      · cases h
    · cases h
  · cases h
end Go.Proofs.YtlcepboedifniaaGreatDoor

set_option linter.unusedVariables false
set_option linter.unusedSimpArgs false
namespace Copyhold
open Go Go.RowKit
theorem chunks_flatten {k : Nat} : ∀ (n : Nat) (cs : List AV), cs.length = n * k → (chunks k cs n).flatten = cs := by
  intro n
  induction n with
  | zero => intro cs h; simp at h; subst h; rfl
  | succ n ih =>
    intro cs h
    have h1 : (cs.take (n * k)).length = n * k := by rw [List.length_take, h, Nat.succ_mul]; omega
    have e : chunks k cs (n + 1) = chunks k (cs.take (n * k)) n ++ [cs.drop (n * k)] := by
      unfold chunks
      rw [List.range_succ, List.map_append]
      congr 1
      · refine List.map_congr_left fun i hi => ?_
        have hi : i < n := by simpa using hi
        have h2 : (i + 1) * k ≤ n * k := Nat.mul_le_mul_right k hi
        rw [Nat.succ_mul] at h2
        rw [List.drop_take, List.take_take, Nat.min_eq_left (by omega)]
      · simp only [List.map_cons, List.map_nil]
        rw [List.take_of_length_le (by rw [List.length_drop, h, Nat.succ_mul]; omega)]
    rw [e, List.flatten_append, ih _ h1]
    simp
def litN (P : Program) (ops : Array Oper) (s : LS) (i : Nat) : Option (TypeId × Nat × Nat × Nat × List AV) :=
  match opAt ops s i with
  | some o =>
    match o.op, o.dst with
    | .buildSlice t n parts, some d =>
      match elemP P t with
      | some e =>
        match szP P e, zeroA P e, cellsAll (parts.toList.map fun p => (p.1, s.ev p.2)) with
        | some k, some z, some qs =>
          bif Nat.beq z.length k && (Nat.ble 1 k && Nat.ble (n * k) 16777216) then
            match afill ((List.range n).map fun j => (j * k, k)) (List.flatten (List.replicate n z)) qs with
            | some cs => some (e, k, d, n, cs)
            | none => none
          else none
        | _, _, _ => none
      | none => none
    | _, _ => none
  | none => none
theorem seqLitN {P : Program} {ops : Array Oper} {K : FS → Prop} {rest : List Nat} {i : Nat} {s : LS} {e k d n : Nat} {cs : List AV} {f : Value → LS}
    (h : litN P ops s i = some (e, k, d, n, cs)) (hn : bget s.bx d = none) (hf : ∀ V', (s.put (some d) (.rw d V' n)).setB d (.row V' e k (chunks k cs n)) = f V') (kk : ∀ V', SeqR P ops K rest (f V').fs) : SeqR P ops K (i :: rest) s.fs := by
  unfold litN at h
  split at h
  · rename_i o ho
    obtain ⟨hi, hg⟩ := opAt_ok ho
    split at h
    · rename_i t n' parts d' hop hd
      split at h
      · rename_i e' he
        split at h
        · rename_i k' z qs hks hz hqs
          cases hb : (Nat.beq z.length k' && (Nat.ble 1 k' && Nat.ble (n' * k') 16777216)) with
          | false => rw [hb] at h; cases h
          | true =>
            rw [hb] at h
            simp only [Bool.and_eq_true] at hb
            have h1 : z.length = k' := Nat.eq_of_beq_eq_true hb.1
            have h2 : 1 ≤ k' := Nat.le_of_ble_eq_true hb.2.1
            have h3 : n' * k' ≤ 16777216 := Nat.le_of_ble_eq_true hb.2.2
            simp only [cond_true] at h
            split at h
            · rename_i cs' hcs
              simp only [Option.some.injEq, Prod.mk.injEq] at h
              obtain ⟨rfl, rfl, rfl, rfl, rfl⟩ := h
              have hlen : cs'.length = n' * k' := by
                rw [afill_length qs _ cs' hcs]
                simp [h1]
              have hch : (chunks k' cs' n').length = n' := by simp [chunks]
              have hnk : n' ≤ n' * k' := Nat.le_mul_of_pos_right n' h2
              have hck : ∀ l ∈ chunks k' cs' n', l.length = k' := fun l hl => by
                unfold chunks at hl
                obtain ⟨j, hj, rfl⟩ := List.mem_map.1 hl
                have hj : j < n' := by simpa using hj
                have : (j + 1) * k' ≤ n' * k' := Nat.mul_le_mul_right k' hj
                rw [Nat.succ_mul] at this
                rw [List.length_take, List.length_drop, hlen]
                omega
              refine ⟨o, hi, .inr ⟨hg, .inr (.inl ⟨by rw [hop]; rfl, _, mono_row (e := e') (k := k') (xs := chunks k' cs' n') hd hck (fun D w ρ hops => ?_), ?_⟩)⟩⟩
              · obtain ⟨it, zv, hi2, hzv, hrep⟩ := zeroA_ok (D := D) (w := w) hz
                have hzs : zv.cells.size = k' := by rw [hrep.1, h1]
                obtain ⟨g1, g2⟩ := cellsAll_ok (D := D) (w := w) _ qs (parts.map fun (i, x) => (i, ρ x)).toList hqs (by simp) (fun j p v hp hv => by
                  simp only [List.getElem?_map, Array.getElem?_toList] at hp
                  simp only [Array.getElem?_toList, Array.getElem?_map] at hv
                  cases hq : parts[j]? with
                  | none => rw [hq] at hp; cases hp
                  | some q =>
                    rw [hq] at hp hv
                    obtain rfl := Option.some.inj hp
                    obtain rfl := Option.some.inj hv
                    refine ⟨rfl, arg_of hops q.2 ?_⟩
                    simp only [hop, Op.operands, List.mem_toArray, List.mem_map, Array.mem_toList_iff]
                    exact ⟨q, Array.mem_of_getElem? hq, rfl⟩)
                have hz0 := repC_zeros hrep n'
                obtain ⟨vs', f1, f2⟩ := fill_ok (D := D) (w := w) (pf := fun i => some (i * k', k')) (fun i p hp => by
                  simp only [List.getElem?_map] at hp
                  cases hr : (List.range n')[i]? with
                  | none => rw [hr] at hp; cases hp
                  | some m =>
                    rw [hr] at hp
                    obtain rfl := Option.some.inj hp
                    obtain ⟨h1, h2⟩ := List.getElem?_eq_some_iff.1 hr
                    simp at h2
                    rw [h2]) qs _ _ _ cs' hz0 g1 g2 hcs
                have hvl : vs'.size = n' * k' := by rw [f2.1, hlen]
                refine ⟨.slice (some ⟨w.heap.size, 0, none⟩) n' n', w.alloc (.cells vs' e'), vs'.toList, ?_, World.grownBy_alloc w _ none, ?_, fun u hu => ?_, fun j a u ha hu => ?_⟩
                · have hnn : ¬ (n' * k' > 2 ^ 24) := by omega
                  by_cases h0 : n' * k' = 0
                  · have hn0 : n' = 0 := by omega
                    subst hn0
                    simp at f1
                    simp [execOp, hop, Instr.buildSlice, run_underlying (elemP_u he), szP_run hks, show Array.range 0 = #[] from rfl, f1, newRow]
                  · have f1' : Instr.fill (fun i => some (i * k', k')) ((Array.range (n' * k')).map (fun x => zv.cells[x % zv.cells.size]!)) (parts.map fun (i, x) => (i, ρ x)).toList = some vs' := by
                      rw [← f1]
                      congr 1
                      have := zeros_eq zv.cells n' (by omega)
                      rw [← this]
                      simp only [hzs]
                    simp [execOp, hop, Instr.buildSlice, run_underlying (elemP_u he), szP_run hks, hnn, h0, zeroValue, typeInfo, hi2, hzv]
                    simp at f1'
                    try simp [f1', newRow]
                · rw [hch]
                  exact ⟨by simp [hvl], .inr ⟨w.heap.size, n', vs', rfl, Nat.le_refl _, heap_alloc_new w _, Nat.le_refl _, by unfold maxLen; omega, hvl, by rw [List.take_of_length_le (by simp [hvl])]⟩⟩
                · obtain ⟨j, hj, rfl⟩ := List.mem_iff_getElem.1 hu
                  exact f2.2.1 j _ (by simp at hj ⊢)
                · rw [chunks_flatten n' cs' hlen] at ha
                  exact f2.2.2 j a u ha (by simpa using hu)
              · rintro z' nb ⟨V', rfl, rfl⟩
                refine ⟨fun id y hy => ?_, ?_⟩
                · obtain ⟨rfl, rfl⟩ := by simpa using hy
                  exact hn
                · have := kk V'
                  rw [← hf V', ← LS.fs_setB, ← LS.fs_put] at this
                  rw [hd, hch]
                  exact this
            · cases h
        · cases h
      · cases h
    · cases h
  · cases h
end Copyhold

set_option linter.unusedVariables false
set_option linter.unusedSimpArgs false
namespace Copyhold
open Go Go.RowKit
def blkB (ops : Array Oper) (l : Array Bool) (i : Nat) : Nat → Nat → Bool
  | 0, _ => false
  | n + 1, j =>
    match ops[j]? with
    | some oj => (oj.after.any fun e => Region.binds .any e && e.on == i) || oj.after.any fun e => Region.binds .any e && (!l.getD e.on true && blkB ops l i n e.on)
    | none => false
theorem blkB_A {ops : Array Oper} {l : Array Bool} {i : Nat} : ∀ n j, blkB ops l i n j = true → blkA ops l i n j = true
  | 0, _, h => by cases h
  | n + 1, j, h => by
    unfold blkB at h
    unfold blkA
    cases hj : ops[j]? with
    | none => rw [hj] at h; cases h
    | some oj =>
      rw [hj] at h
      simp only at h ⊢
      rw [Bool.or_eq_true] at h
      rcases h with h | h
      · obtain ⟨e, he, hb⟩ := Array.any_eq_true'.1 h
        refine Array.any_eq_true'.2 ⟨e, he, ?_⟩
        simp only [Bool.and_eq_true] at hb ⊢
        exact ⟨hb.1, by rw [hb.2]; rfl⟩
      · obtain ⟨e, he, hb⟩ := Array.any_eq_true'.1 h
        refine Array.any_eq_true'.2 ⟨e, he, ?_⟩
        simp only [Bool.and_eq_true, Bool.or_eq_true] at hb ⊢
        exact ⟨hb.1, .inr ⟨hb.2.1, blkB_A n e.on hb.2.2⟩⟩
def freeB (P : Program) (ops : Array Oper) (l : Array Bool) (i : Nat) : Bool :=
  match ops[i]? with
  | none => false
  | some oi => isRd P oi.op && (List.range ops.size).all fun j => j == i || l.getD j true || match ops[j]? with
      | some oj => (oi.apart ops oj && (!isLd oi.op || !isMut oj.op)) || blkB ops l i ops.size j
      | none => true
theorem freeB_A {P : Program} {ops : Array Oper} {l : Array Bool} {i : Nat} (h : freeB P ops l i = true) : freeA P ops l i = true := by
  unfold freeB at h
  unfold freeA
  cases hi : ops[i]? with
  | none => rw [hi] at h; cases h
  | some oi =>
    rw [hi] at h
    simp only [Bool.and_eq_true, List.all_eq_true] at h ⊢
    refine ⟨h.1, fun j hj => ?_⟩
    have := h.2 j hj
    simp only [Bool.or_eq_true] at this ⊢
    rcases this with h1 | h1
    · exact .inl h1
    · refine .inr ?_
      cases hoj : ops[j]? with
      | none => rfl
      | some oj =>
        simp only [hoj, Bool.or_eq_true] at h1 ⊢
        rcases h1 with h2 | h2
        · exact .inr h2
        · exact .inl (blkB_A _ _ h2)
def okOrdB (P : Program) (ops : Array Oper) : List Nat → Array Bool → Bool
  | [], l => (Region.ready .any ops l).isEmpty
  | i :: r, l => (((Region.ready .any ops l).contains i && freeB P ops l i) || Region.ready .any ops l == [i]) && okOrdB P ops r (l.setIfInBounds i true)
theorem okOrdB_A {P : Program} {ops : Array Oper} : ∀ {r : List Nat} {l : Array Bool}, okOrdB P ops r l = true → okOrd P ops r l = true
  | [], l, h => h
  | i :: r, l, h => by
    simp only [okOrdB, okOrd, Bool.and_eq_true, Bool.or_eq_true] at h ⊢
    refine ⟨?_, okOrdB_A h.2⟩
    rcases h.1 with h1 | h1
    · exact .inl ⟨freeB_A h1.2, h1.1⟩
    · exact .inr h1
def okPre (P : Program) (ops : Array Oper) : List Nat → Array Bool → Bool
  | [], _ => true
  | i :: r, l => (((Region.ready .any ops l).contains i && freeB P ops l i) || Region.ready .any ops l == [i]) && okPre P ops r (l.setIfInBounds i true)
def aft : List Nat → Array Bool → Array Bool
  | [], l => l
  | i :: r, l => aft r (l.setIfInBounds i true)
theorem okPre_any {P : Program} {ops : Array Oper} {K : FS → Prop} {f : Nat} : ∀ (r : List Nat) (l : Array Bool) (s : FS), okPre P ops r l = true → SeqR P ops (aAny P ops K f (aft r l)) r s → aAny P ops K (r.length + f) l s
  | [], l, s, _, hs => by
    rw [List.length_nil, Nat.zero_add]; exact hs
  | i :: r, l, s, h, hs => by
    simp only [okPre, Bool.and_eq_true, Bool.or_eq_true] at h
    obtain ⟨h1, h2⟩ := h
    rw [List.length_cons, show r.length + 1 + f = (r.length + f) + 1 from by omega]
    rcases h1 with ⟨hr, hf0⟩ | hr
    · have hf := freeB_A hf0
      unfold freeA at hf
      split at hf
      · cases hf
      · rename_i oi hi
        simp only [Bool.and_eq_true, List.all_eq_true, List.mem_range] at hf
        obtain ⟨hrd, hf⟩ := hf
        obtain ⟨o, ho, hst⟩ := hs
        obtain rfl : oi = o := Option.some.inj (hi.symm.trans ho)
        have hfree : ∀ j oj, ops[j]? = some oj → j ≠ i → l.getD j true = false → (∀ n, blkA ops l i n j = false) → oi.apart ops oj = true ∧ (isLd oi.op = true → isMut oj.op = false) := by
          intro j oj hj hne hun hno
          have h3 := hf j (Array.getElem?_eq_some_iff.1 hj).1
          simp only [hj, Bool.or_eq_true, beq_iff_eq, hne, false_or, hun, Bool.false_eq_true, Bool.and_eq_true, Bool.not_eq_true'] at h3
          rcases h3 with h3 | ⟨h3, h4⟩
          · rw [hno ops.size] at h3; cases h3
          · refine ⟨h3, fun hl => ?_⟩
            rcases h4 with h4 | h4
            · rw [hl] at h4; cases h4
            · exact h4
        have key : ∃ x, Yld P ops oi s x ∧ SeqR P ops (aAny P ops K f (aft r (l.setIfInBounds i true))) r (s.put oi.dst x) := by
          rcases hst with ⟨g, hk⟩ | ⟨g, ⟨x, hx, hk⟩ | ⟨g2, _⟩ | ⟨g2, _⟩⟩
          · exact ⟨.val undef, .inl ⟨g, rfl⟩, hk⟩
          · exact ⟨x, .inr ⟨g, hx⟩, hk⟩
          · rw [hrd] at g2; cases g2
          · rw [hrd] at g2; cases g2
        obtain ⟨x, hy, hk⟩ := key
        exact aAny_first hi (r.length + f) l s hfree (by simpa using hr) hy (okPre_any r _ _ h2 hk)
    · have hr' : Region.ready .any ops l = [i] := by simpa using hr
      refine ⟨fun h => (by rw [h] at hr'; cases hr'), fun j hj => ?_⟩
      rw [hr'] at hj
      obtain rfl : j = i := by simpa using hj
      exact hs.mono fun s' h' => okPre_any r _ s' h2 h'
def okAlt (P : Program) (ops : Array Oper) (l : Array Bool) (f : Nat) (alts : List (List Nat)) : Bool :=
  (Region.ready .any ops l == alts.map (·.headD 0)) && (!alts.isEmpty && alts.all fun a => match a with
    | [] => false
    | i :: r => r.length == f && okOrdB P ops r (l.setIfInBounds i true))
theorem okAlt_any {P : Program} {ops : Array Oper} {K : FS → Prop} {l : Array Bool} {f : Nat} {alts : List (List Nat)} {s : FS} (h : okAlt P ops l f alts = true) (ha : ∀ a ∈ alts, SeqR P ops K a s) : aAny P ops K (f + 1) l s := by
  unfold okAlt at h
  simp only [Bool.and_eq_true, beq_iff_eq, Bool.not_eq_true', List.all_eq_true] at h
  obtain ⟨h1, h2, h3⟩ := h
  refine ⟨fun he => ?_, fun i hi => ?_⟩
  · rw [he] at h1
    cases alts with
    | nil => cases h2
    | cons a r => cases h1
  · rw [h1] at hi
    obtain ⟨a, ham, rfl⟩ := List.mem_map.1 hi
    have h4 := h3 a ham
    have hs := ha a ham
    cases a with
    | nil => cases h4
    | cons i r =>
      simp only [Bool.and_eq_true, beq_iff_eq] at h4
      refine StepR.mono hs fun s' h' => ?_
      have := okOrd_any r _ s' (okOrdB_A h4.2) h'
      rw [h4.1] at this
      exact this
end Copyhold

namespace Copyhold
open Go Go.RowKit Go.ChangeShapes Go.WideShapes Go.ChangeAt
theorem trodAll_stays {H : Type} {enc : TypeId × Value → H} {P : Program} (hl : laidOutB P = true) {W W' : World} (hb : Below W.heap.size W W') :
    ∀ (ts : List TypeId) (vs : List Value) (ds : List (DataW H)) (ps : List MemPlace), (∀ t ∈ ts, P.readableRec t = true ∧ t < P.types.size) →
      DataW.TrodAll enc P W 0 (fun _ => true) true ts vs ds ps → (∀ x ∈ ps, x.block < W.heap.size) → DataW.TrodAll enc P W' 0 (fun b => decide (b < W.heap.size)) true ts vs ds ps
  | [], vs, ds, ps, _, h, _ => by
    obtain ⟨rfl, rfl, rfl⟩ := trodAll_nil h
    rfl
  | t :: ts, vs, ds, ps, ht, h, hlt => by
    obtain ⟨v, vs', d, ds', p, q, rfl, rfl, rfl, h1, h2⟩ := trodAll_cons h
    have hr := ht t (by simp)
    exact trodAll_cons_mk (Below.trod hl hr.1 hr.2 h1 hb (fun x hx => hlt x (by simp [hx])))
      (trodAll_stays hl hb ts vs' ds' q (fun u hu => ht u (by simp [hu])) h2 (fun x hx => hlt x (by simp [hx])))
theorem list1 {α : Type} {l : List α} (h : l.length = 1) : ∃ x0, l = [x0] := by
  match l, h with
  | [x0], _ => exact ⟨x0, rfl⟩
theorem array1_of {α : Type} {l : Array α} (h : l.size = 1) : ∃ x0, l = #[x0] := by
  obtain ⟨l⟩ := l
  obtain ⟨x0, rfl⟩ := list1 h
  exact ⟨x0, rfl⟩
theorem list2 {α : Type} {l : List α} (h : l.length = 2) : ∃ x0 x1, l = [x0, x1] := by
  match l, h with
  | [x0, x1], _ => exact ⟨x0, x1, rfl⟩
theorem array2_of {α : Type} {l : Array α} (h : l.size = 2) : ∃ x0 x1, l = #[x0, x1] := by
  obtain ⟨l⟩ := l
  obtain ⟨x0, x1, rfl⟩ := list2 h
  exact ⟨x0, x1, rfl⟩
theorem law_post {H : Type} {enc : TypeId × Value → H} {P : Program} {f : Func} {s : ChangeSpec} {W W' : World} {args : Array Value} {ds gs : List (DataW H)} {before : List MemPlace} {tb : TypeId}
    (hl : laidOutB P = true) (hp : (f.params.toList.all fun t => P.readableRec t && decide (t < P.types.size)) = true) (hr : f.resultTypes = #[tb]) (htb : P.underlying tb = some .bool) (hv : s.vars = [])
    (hfn : (s.fn H (ds ++ gs)).results = [.lit (.bool true)]) (hfa : (s.fn H (ds ++ gs)).args = ds) (hfv : (s.fn H (ds ++ gs)).vars = [])
    (hW : DataW.Whole enc P f.params.toList s.vars false W args.toList ds gs before) (hb : Below W.heap.size W W') :
    s.post enc P f false true false false W args (.bool true) W' := by
  have hlt := hW.lt
  have hW' := hW
  obtain ⟨p, q, hA, hV, rfl, hz, hn⟩ := hW
  refine ⟨ds, gs, p ++ q, [], p, [], hW', ?_, ?_, ?_, hb.frame _, fun h => by cases h⟩
  · rw [hfn, hr]
    exact trodAll_cons_mk (shut_bool htb true) trodAll_mk0
  · rw [hfa]
    refine trodAll_stays hl hb _ _ _ _ (fun t ht => ?_) hA (fun x hx => hlt x (by simp [hx]))
    have := (List.all_eq_true.1 hp) t ht
    simpa using this
  · rw [hfv, hv]
    rfl
def textsD {H : Type} (d : DataW H) (ls : List (List UInt8)) : Prop := d = .nil ∧ ls = [] ∨ ∃ spare, d = .slice (ls.map fun l => .lit (.string l)) spare
theorem sized_deep {H : Type} {P : Program} {ts : List TypeId} {ds : List (DataW H)} (h : (DataW.weightsEach P ts ds).all (· ≤ reachBytes) = true) {n : Nat} (hn : n ∈ DataW.weightsEach P ts ds) : n ≤ 140737488351232 :=
  of_decide_eq_true (List.all_eq_true.1 h n hn)
end Copyhold

namespace Copyhold
open Go Go.RowKit Go.ChangeShapes Go.WideShapes Go.ChangeAt Go.Deep
def SlOf {α : Type} (R : α → List Value → Prop) (w : World) (k : Nat) (v : Value) (xs : List α) : Prop :=
  ∃ css : List (List Value), Sl w k v xs.length css.flatten ∧ css.length = xs.length ∧ ∀ (i : Nat) cs a, css[i]? = some cs → xs[i]? = some a → cs.length = k ∧ R a cs
theorem SlOf.mono {α : Type} {R R' : α → List Value → Prop} {w : World} {k : Nat} {v : Value} {xs : List α} (h : SlOf R w k v xs) (hr : ∀ a cs, R a cs → R' a cs) : SlOf R' w k v xs := by
  obtain ⟨css, h1, h2, h3⟩ := h
  exact ⟨css, h1, h2, fun i cs a hc ha => ⟨(h3 i cs a hc ha).1, hr _ _ (h3 i cs a hc ha).2⟩⟩
theorem SlOf.shape {α : Type} {R : α → List Value → Prop} {w : World} {k : Nat} {v : Value} {xs : List α} (h : SlOf R w k v xs) : ∃ A c, v = .slice A xs.length c := by
  obtain ⟨css, h1, _⟩ := h
  obtain ⟨A, c, rfl, _⟩ := h1.shape
  exact ⟨A, c, rfl⟩
theorem SlOf.below {α : Type} {R : α → List Value → Prop} {w w' : World} {k : Nat} {v : Value} {xs : List α} (h : SlOf R w k v xs) (hb : Below w.heap.size w w') : SlOf R w' k v xs := by
  obtain ⟨css, h1, h2, h3⟩ := h
  exact ⟨css, h1.below hb, h2, h3⟩
theorem flatten_get {k : Nat} : ∀ (css : List (List Value)), (∀ cs ∈ css, cs.length = k) → ∀ (i j : Nat), j < k → css.flatten[i * k + j]? = css[i]?.bind (·[j]?) := by
  intro css
  induction css with
  | nil => intro _ i j _; simp
  | cons c r ih =>
    intro h i j hj
    have hc := h c List.mem_cons_self
    have hr := ih (fun cs hcs => h cs (List.mem_cons_of_mem _ hcs))
    rw [List.flatten_cons]
    cases i with
    | zero =>
      rw [Nat.zero_mul, Nat.zero_add, List.getElem?_append_left (by omega)]
      simp
    | succ i =>
      rw [List.getElem?_append_right (by rw [hc, Nat.succ_mul]; omega), hc, show (i + 1) * k + j - k = i * k + j from by rw [Nat.succ_mul]; omega, hr i j hj]
      simp
theorem SlOf.at {α : Type} {R : α → List Value → Prop} {w : World} {k : Nat} {A : Option Addr} {c : Nat} {xs : List α} (h : SlOf R w k (.slice A xs.length c) xs) (i : Nat) {a : α} (hi : xs[i]? = some a) :
    ∃ b off cs, A = some ⟨b, off, none⟩ ∧ b < w.heap.size ∧ cs.length = k ∧ R a cs ∧ ∀ j y, cs[j]? = some y → w.cell? ⟨b, off + (i * k + j), none⟩ = some y := by
  obtain ⟨css, h1, h2, h3⟩ := h
  have hil := (List.getElem?_eq_some_iff.1 hi).1
  obtain ⟨b, off, rfl, hbk, _, _, hcl⟩ := h1.at (by omega)
  have hcs : css[i]? = some (css[i]'(by omega)) := List.getElem?_eq_getElem (by omega)
  obtain ⟨hl, hr⟩ := h3 i _ a hcs hi
  have hall : ∀ cs ∈ css, cs.length = k := fun cs hm => by
    obtain ⟨j, hj, rfl⟩ := List.mem_iff_getElem.1 hm
    exact (h3 j _ _ (List.getElem?_eq_getElem hj) (List.getElem?_eq_getElem (by omega))).1
  refine ⟨b, off, _, rfl, hbk, hl, hr, fun j y hy => hcl _ _ ?_⟩
  have hj := (List.getElem?_eq_some_iff.1 hy).1
  rw [flatten_get css hall i j (by omega), hcs]
  exact hy
def rowsD {H : Type} (d : DataW H) (n : Nat) : Prop := d = .nil ∧ n = 0 ∨ ∃ elems spare, d = .slice elems spare ∧ elems.length = n
theorem rows_sized {H : Type} {P : Program} {t e : TypeId} {d : DataW H} {n : Nat} (hu : P.underlying t = some (.slice e)) (he : rowsD d n) (hw : ∀ m ∈ DataW.weights P t d, m ≤ 140737488351232) : n * P.bytesOf e ≤ 140737488351232 := by
  rcases he with ⟨rfl, rfl⟩ | ⟨elems, spare, rfl, hl⟩
  · simp
  · have := hw ((elems.length + spare.length) * P.bytesOf e) (by simp only [DataW.weights, hu, List.mem_cons, true_or])
    rw [Nat.add_mul, hl] at this
    omega
theorem weights_elem {H : Type} {P : Program} {e : TypeId} : ∀ (ds : List (DataW H)) (d : DataW H), d ∈ ds → ∀ n ∈ DataW.weights P e d, n ∈ DataW.weightsAll P e ds
  | x :: r, d, h, n, hn => by
    simp only [DataW.weightsAll, List.mem_append]
    rcases List.mem_cons.1 h with rfl | h
    · exact .inl hn
    · exact .inr (weights_elem r d h n hn)
theorem open_slice_of {α : Type} {R : α → List Value → Prop} {H : Type} {enc : TypeId × Value → H} {P : Program} {W : World} {t e : TypeId} {k fuel : Nat} {cs : List Value} {x : DataW H × List MemPlace} (ht : P.underlying t = some (.slice e)) (hc : P.cellsOf e = k) (hk : 0 < k) (a0 : α)
    (hel : ∀ (n : Nat) (cs' : List Value) (y : DataW H × List MemPlace), DataW.trod enc P W 0 (fun _ => true) true n e cs' = some y → (∀ p ∈ y.2, p.block < W.heap.size) → cs'.length = k → (∀ n ∈ DataW.weights P e y.1, n ≤ 140737488351232) → ∃ a, R a cs')
    (h : DataW.trod enc P W 0 (fun _ => true) true fuel t cs = some x) (hlt : ∀ p ∈ x.2, p.block < W.heap.size) (hw : ∀ n ∈ DataW.weights P t x.1, n ≤ 140737488351232) :
    ∃ (v : Value) (xs : List α), cs = [v] ∧ SlOf R W k v xs ∧ rowsD x.1 xs.length := by
  rcases open_slice ht h with ⟨rfl, rfl⟩ | ⟨a, len, cap, m, n, D, Pl, rfl, _, hl, hm, hmm, rfl, hi⟩
  · exact ⟨_, [], rfl, ⟨[], Sl.nil _ _, rfl, fun i cs a hc => by simp at hc⟩, .inl ⟨rfl, rfl⟩⟩
  · simp only [if_true] at hmm
    subst hmm
    have hel' : ∀ i : Nat, ∃ q : α × List Value, i < len → q.2.length = k ∧ R q.1 q.2 ∧ ∀ j, j < k → W.cell? (a.add (i * k + j)) = q.2[j]? := by
      intro i
      by_cases hil : i < len
      · obtain ⟨cs', hcs, htr⟩ := hi i (by omega)
        rw [hc] at hcs
        obtain ⟨_, hcl, hat⟩ := World.cells?_some hcs
        obtain ⟨y, hy⟩ := hel n cs' _ htr (fun p hp => hlt p (by
          simp only [List.mem_append, List.mem_flatMap]
          exact .inr ⟨i, List.mem_range.2 (by omega), hp⟩)) hcl (fun q hq => hw q (by
          simp only [DataW.weights, ht, List.mem_cons, List.mem_append]
          exact .inr (.inl (weights_elem _ (D i) (List.mem_map.2 ⟨i, List.mem_range.2 hil, rfl⟩) q hq))))
        refine ⟨(y, cs'), fun _ => ⟨hcl, hy, fun j hj => ?_⟩⟩
        have := hat j hj
        rw [Go.Deep.add_add] at this
        exact this
      · exact ⟨(a0, []), fun h => absurd h hil⟩
    obtain ⟨f, hf⟩ := Classical.skolem.1 hel'
    have hlen : ((List.range len).map fun i => (f i).1).length = len := by simp
    refine ⟨_, (List.range len).map fun i => (f i).1, rfl, ⟨(List.range len).map fun i => (f i).2, ?_, by simp, fun i cs y hcs hy => ?_⟩, .inr ⟨_, _, rfl, by simp⟩⟩
    · have hall : ∀ cs ∈ (List.range len).map fun i => (f i).2, cs.length = k := fun cs hm => by
        obtain ⟨i, hi', rfl⟩ := List.mem_map.1 hm
        exact (hf i (List.mem_range.1 hi')).1
      have hfl : ((List.range len).map fun i => (f i).2).flatten.length = len * k := by
        rw [List.length_flatten]
        have : (((List.range len).map fun i => (f i).2).map List.length) = List.replicate len k := by
          apply List.ext_getElem (by simp)
          intro i h1 h2
          simp at h1 ⊢
          exact (hf i h1).1
        rw [this]
        simp
      refine ⟨some a, m, by rw [hlen], by rw [hlen]; exact hl, by rw [hlen]; exact hfl, fun h0 => ?_⟩
      rw [hlen] at h0
      obtain ⟨b, off, spot⟩ := a
      have h00 := (hf 0 h0).2.2 0 hk
      have hl0 := (hf 0 h0).1
      rw [List.getElem?_eq_getElem (by omega)] at h00
      have hspot : spot = none := by simpa [Addr.add] using World.cell?_spot h00
      subst hspot
      refine ⟨b, off, rfl, ?_, fun j y hy => ?_⟩
      · exact cell_lt (b := b) (o := off + (0 * k + 0)) (by rw [← add_plain']; exact h00)
      · have hj := (List.getElem?_eq_some_iff.1 hy).1
        rw [hfl] at hj
        have hdiv : j / k < len := Nat.div_lt_of_lt_mul (by rw [Nat.mul_comm]; exact hj)
        have hmod := Nat.mod_lt j hk
        have hjj : j = j / k * k + j % k := by rw [Nat.mul_comm]; exact (Nat.div_add_mod j k).symm
        rw [hjj, flatten_get _ hall _ _ hmod, List.getElem?_map, List.getElem?_range hdiv] at hy
        simp only [Option.map_some, Option.bind_some] at hy
        rw [hjj, ← add_plain', (hf _ hdiv).2.2 _ hmod]
        exact hy
    · have hil : i < len := by have := (List.getElem?_eq_some_iff.1 hy).1; rwa [hlen] at this
      rw [List.getElem?_map, List.getElem?_range hil] at hcs hy
      simp only [Option.map_some, Option.some.injEq] at hcs hy
      subst hcs hy
      exact ⟨(hf i hil).1, (hf i hil).2.1⟩
end Copyhold

set_option linter.unusedVariables false
namespace Copyhold
open Go Go.RowKit
def CellsR (D : Nat → Prop) (w : World) (xs : List AV) (cs : List Value) : Prop := cs.length = xs.length ∧ ∀ (j : Nat) (a : AV) (u : Value), xs[j]? = some a → cs[j]? = some u → Ra D w a u
theorem chunk_get {k : Nat} {us : List Value} {n : Nat} (hl : us.length = n * k) {i j : Nat} (hi : i < n) (hj : j < k) : ((us.drop (i * k)).take k)[j]? = us[i * k + j]? := by
  rw [List.getElem?_take, if_pos hj, List.getElem?_drop]
theorem slOf_of_ra {α : Type} {R : α → List Value → Prop} {D : Nat → Prop} {w : World} {k : Nat} {t : Bool} {enc : α → List AV} {l : List α} {v : Value} (h : Ra D w (.sl k t (l.map enc)) v) (hk : ∀ x ∈ l, (enc x).length = k)
    (hR : ∀ x ∈ l, ∀ cs, CellsR D w (enc x) cs → R x cs) : SlOf R w k v l := by
  obtain ⟨us, hsl, hone, hru⟩ := sl_of_ra h
  rw [List.length_map] at hsl
  have hk' : ∀ e ∈ l.map enc, e.length = k := fun e he => by
    obtain ⟨x, hx, rfl⟩ := List.mem_map.1 he
    exact hk x hx
  have hul : us.length = l.length * k := by
    obtain ⟨A, c, _, _, hl, _⟩ := hsl
    exact hl
  have hin : ∀ i, i < l.length → i * k + k ≤ l.length * k := fun i hi => by
    have := Nat.mul_le_mul_right k (Nat.succ_le_of_lt hi)
    rw [Nat.succ_mul] at this
    exact this
  have hflat : ((List.range l.length).map fun i => (us.drop (i * k)).take k).flatten = us := by
    apply List.ext_getElem?
    intro j
    have hall : ∀ cs ∈ (List.range l.length).map (fun i => (us.drop (i * k)).take k), cs.length = k := fun cs hcs => by
      simp only [List.mem_map, List.mem_range] at hcs
      obtain ⟨i, hi, rfl⟩ := hcs
      have := hin i hi
      rw [List.length_take, List.length_drop]
      omega
    have hlen : ∀ (css : List (List Value)), (∀ cs ∈ css, cs.length = k) → css.flatten.length = css.length * k := fun css => by
      induction css with
      | nil => simp
      | cons c r ih =>
        intro h
        simp only [List.flatten_cons, List.length_append, List.length_cons, ih (fun e he => h e (by simp [he])), h c (by simp)]
        rw [Nat.succ_mul]
        omega
    have hlenf := hlen _ hall
    rw [List.length_map, List.length_range] at hlenf
    by_cases hj : j < l.length * k
    · have h0 : 0 < k := by
        rcases Nat.eq_zero_or_pos k with h | h
        · rw [h] at hj; omega
        · exact h
      have h1 : j / k < l.length := Nat.div_lt_of_lt_mul (by rw [Nat.mul_comm]; exact hj)
      have h2 : j % k < k := Nat.mod_lt _ h0
      have e : j = j / k * k + j % k := by rw [Nat.mul_comm]; exact (Nat.div_add_mod j k).symm
      conv => lhs; rw [e]
      rw [flatten_get _ hall _ _ h2]
      simp only [List.getElem?_map, List.getElem?_range h1, Option.map_some, Option.bind_some]
      rw [chunk_get hul h1 h2, ← e]
    · rw [List.getElem?_eq_none (by omega), List.getElem?_eq_none (by omega)]
  refine ⟨(List.range l.length).map fun i => (us.drop (i * k)).take k, by rw [hflat]; exact hsl, by simp, fun i cs a hc ha => ?_⟩
  have hi : i < l.length := (List.getElem?_eq_some_iff.1 ha).1
  simp only [List.getElem?_map, List.getElem?_range hi, Option.map_some, Option.some.injEq] at hc
  subst hc
  have hcl : ((us.drop (i * k)).take k).length = k := by
    have := hin i hi
    rw [List.length_take, List.length_drop]
    omega
  have hm := List.mem_of_getElem? ha
  refine ⟨hcl, hR a hm _ ⟨by rw [hcl, hk a hm], fun j x u hx hu => ?_⟩⟩
  have hj : j < k := by have := (List.getElem?_eq_some_iff.1 hu).1; omega
  rw [chunk_get hul hi hj] at hu
  exact hru _ x u (flat_get hk' i (enc a) j x (by simp [ha]) hx) hu
theorem ra_of_slOf {α : Type} {R : α → List Value → Prop} {w : World} {k : Nat} {enc : α → List AV} {l : List α} {v : Value} (h : SlOf R w k v l) (D : Nat → Prop) (hD : ∀ b, b < w.heap.size → D b)
    (hR : ∀ x ∈ l, ∀ cs, cs.length = k → R x cs → (∀ u ∈ cs, u.oneCell' = true) ∧ CellsR D w (enc x) cs) : Ra D w (.sl k false (l.map enc)) v := by
  obtain ⟨css, ⟨A, c, rfl, hnc, hl, hcells⟩, hcl, hel⟩ := h
  have key : ∀ (i : Nat) (x : α), l[i]? = some x → ∃ cs, css[i]? = some cs ∧ cs.length = k ∧ (∀ u ∈ cs, u.oneCell' = true) ∧ CellsR D w (enc x) cs := fun i x hx => by
    have hi : i < l.length := (List.getElem?_eq_some_iff.1 hx).1
    have hc : css[i]? = some (css[i]'(by omega)) := List.getElem?_eq_getElem (by omega)
    obtain ⟨h1, h2⟩ := hel i _ x hc hx
    obtain ⟨h3, h4⟩ := hR x (List.mem_of_getElem? hx) _ h1 h2
    exact ⟨_, hc, h1, h3, h4⟩
  have hall : ∀ cs ∈ css, cs.length = k := fun cs hm => by
    obtain ⟨j, hj, rfl⟩ := List.mem_iff_getElem.1 hm
    exact (hel j _ _ (List.getElem?_eq_getElem hj) (List.getElem?_eq_getElem (by omega))).1
  have hb : 0 < l.length → ∃ b off, A = some ⟨b, off, none⟩ ∧ b < w.heap.size ∧ ∀ (j : Nat) (x : Value), css.flatten[j]? = some x → w.cell? ⟨b, off + j, none⟩ = some x := hcells
  obtain ⟨b, off, hbo⟩ : ∃ b off, 0 < l.length → A = some ⟨b, off, none⟩ ∧ b < w.heap.size ∧ ∀ (j : Nat) (x : Value), css.flatten[j]? = some x → w.cell? ⟨b, off + j, none⟩ = some x := by
    by_cases h0 : 0 < l.length
    · obtain ⟨b, off, h⟩ := hb h0
      exact ⟨b, off, fun _ => h⟩
    · exact ⟨0, 0, fun h => absurd h h0⟩
  have main := Ra.sl (D := D) (w := w) k false (l.map enc) A c b off (fun i j => (css.getD i []).getD j undef) (by simpa using hnc) (fun h => by cases h) (fun h0 => by
      obtain ⟨h1, h2, _⟩ := hbo (by simpa using h0)
      exact ⟨h1, hD b h2, h2⟩) (fun i e he => by
      simp only [List.getElem?_map] at he
      cases hx : l[i]? with
      | none => rw [hx] at he; cases he
      | some x =>
        rw [hx] at he
        obtain rfl := Option.some.inj he
        obtain ⟨cs, _, h2, _, h4⟩ := key i x hx
        rw [← h4.1, h2]) (fun i e j y he hy => by
      simp only [List.getElem?_map] at he
      cases hx : l[i]? with
      | none => rw [hx] at he; cases he
      | some x =>
        rw [hx] at he
        obtain rfl := Option.some.inj he
        obtain ⟨cs, h1, h2, h3, h4⟩ := key i x hx
        have hj : j < cs.length := by rw [h4.1]; exact (List.getElem?_eq_some_iff.1 hy).1
        have hc : cs[j]? = some cs[j] := List.getElem?_eq_getElem hj
        have hi : i < l.length := (List.getElem?_eq_some_iff.1 hx).1
        obtain ⟨_, _, hcc⟩ := hbo (by omega)
        simp only [List.getD, h1, Option.getD_some, hc]
        refine ⟨hcc _ _ ?_, h3 _ (List.getElem_mem hj)⟩
        rw [flatten_get css hall i j (by omega), h1]
        exact hc) (fun i e j y he hy => by
      simp only [List.getElem?_map] at he
      cases hx : l[i]? with
      | none => rw [hx] at he; cases he
      | some x =>
        rw [hx] at he
        obtain rfl := Option.some.inj he
        obtain ⟨cs, h1, h2, h3, h4⟩ := key i x hx
        have hj : j < cs.length := by rw [h4.1]; exact (List.getElem?_eq_some_iff.1 hy).1
        have hc : cs[j]? = some cs[j] := List.getElem?_eq_getElem hj
        simp only [List.getD, h1, Option.getD_some, hc]
        exact h4.2 j y _ hy hc)
  rw [List.length_map] at main
  exact main
def txA (l : List UInt8) : List AV := [aS l]
theorem row_of_ra {D : Nat → Prop} {w : World} {t : Bool} {l : List (List UInt8)} {v : Value} (h : Ra D w (.sl 1 t (l.map txA)) v) : Row w v (l.map strV) := by
  have := slOf_of_ra (R := fun x cs => cs = [strV x]) h (fun x _ => rfl) (fun x _ cs hc => by
    obtain ⟨h1, h2⟩ := hc
    match cs, h1 with
    | [u], _ =>
      have := h2 0 _ u rfl rfl
      cases this
      rfl)
  obtain ⟨css, h1, h2, h3⟩ := this
  have hf : css.flatten = l.map strV := by
    have : css = l.map fun x => [strV x] := by
      apply List.ext_getElem?
      intro i
      by_cases hi : i < l.length
      · have hc : css[i]? = some (css[i]'(by omega)) := List.getElem?_eq_getElem (by omega)
        have hx : l[i]? = some l[i] := List.getElem?_eq_getElem hi
        rw [hc, (h3 i _ _ hc hx).2]
        simp [hx]
      · rw [List.getElem?_eq_none (by omega), List.getElem?_eq_none (by simp; omega)]
    rw [this]
    clear this h3 h1 h2 h
    induction l with
    | nil => rfl
    | cons x r ih => simp only [List.map_cons, List.flatten_cons, ih]; rfl
  rw [hf] at h1
  have := Sl.row h1
  exact this
theorem RaAll.one {D : Nat → Prop} {w : World} {x : AV} {vs : Array Value} (h : RaAll D w [x] vs) : ∃ v, vs = #[v] ∧ Ra D w x v := by
  obtain ⟨h1, h2⟩ := h
  obtain ⟨v, rfl⟩ := array1_of h1.symm
  exact ⟨v, rfl, h2 0 x v rfl rfl⟩
theorem RaAll.two {D : Nat → Prop} {w : World} {x y : AV} {vs : Array Value} (h : RaAll D w [x, y] vs) : ∃ u v, vs = #[u, v] ∧ Ra D w x u ∧ Ra D w y v := by
  obtain ⟨h1, h2⟩ := h
  obtain ⟨u, v, rfl⟩ := array2_of h1.symm
  exact ⟨u, v, rfl, h2 0 x u rfl rfl, h2 1 y v rfl rfl⟩
end Copyhold
