/- Walks over abstract states: '==' of structs of numbers and texts, by a lemma on the type. Over any program. -/
import Derived.Test.YtpdedjbkfcaebaaAbs13
import Derived.Laws.StructEq
set_option linter.unusedVariables false
set_option linter.unusedSimpArgs false
namespace Go.Proofs.Ytpdedjbkfcaebaa
open Go.RowKit Copyhold
def eqFs (P : Program) (rec : TypeId → AV → AV → Option Bool) (xs ys : List AV) : List Field → Option Bool
  | [] => some true
  | f :: fs =>
    bif f.name == "_" then none else
    match partA P f.type (xs.drop f.offset), partA P f.type (ys.drop f.offset) with
    | some a, some b =>
      match rec f.type a b, eqFs P rec xs ys fs with
      | some r, some q => some (r && q)
      | _, _ => none
    | _, _ => none
def eqA (P : Program) : Nat → TypeId → AV → AV → Option Bool
  | 0, _, _, _ => none
  | d + 1, t, x, y =>
    match P.underlying t, x, y with
    | some (.int _), .val (.int .i64 a), .val (.int .i64 b) => some (a == b)
    | some (.int _), .val (.int .u8 a), .val (.int .u8 b) => some (a == b)
    | some .bool, .val (.bool a), .val (.bool b) => some (a == b)
    | some .string, .val (.string ⟨⟨a⟩⟩), .val (.string ⟨⟨b⟩⟩) => some (a == b)
    | some (.struct fs), .agg xs, .agg ys => bif P.stoodInHeld t then none else eqFs P (eqA P d) xs ys fs.toList
    | _, _, _ => none
theorem eqA_ok {P : Program} : ∀ (d : Nat) (t : TypeId) (x y : AV) (b : Bool), eqA P d t x y = some b → ∀ (D : Nat → Prop) (w : World) (u v : Value), Ra D w x u → Ra D w y v → ∀ k, (Op.equalIn (d + k) t u v).run P w = .ok b w
  | 0, _, _, _, _, h => by cases h
  | d + 1, t, x, y, b, h => by
    intro D w u v hu hv k
    rw [show d + 1 + k = (d + k) + 1 by omega]
    unfold eqA at h
    split at h
    · rename_i e
      cases hu; cases hv; cases h
      simp [Op.equalIn, run_underlying e]
    · rename_i e
      cases hu; cases hv; cases h
      simp [Op.equalIn, run_underlying e]
    · rename_i e
      cases hu; cases hv; cases h
      simp [Op.equalIn, run_underlying e]
    · rename_i e
      cases hu; cases hv; cases h
      simp [Op.equalIn, run_underlying e, beq_toListBytes]
    · rename_i fs xs ys e
      cases hst : P.stoodInHeld t with
      | true => simp [hst] at h
      | false =>
      simp only [hst, cond_false] at h
      cases hu with
      | agg _ us a1 a2 a3 =>
      cases hv with
      | agg _ vs b1 b2 b3 =>
      have hf : P.fieldsOf t = fs := by simp [Program.fieldsOf, e]
      rw [run_equalIn_agg (ht := by rw [hf]; exact e) (hp := hst), hf]
      revert h
      generalize fs.toList = l
      intro h
      clear hf e
      induction l generalizing b with
      | nil => simp only [eqFs, Option.some.injEq] at h; subst h; simp [Op.eqFields]
      | cons f l ih =>
        unfold eqFs at h
        cases hn : (f.name == "_") with
        | true => simp [hn] at h
        | false =>
        simp only [hn, cond_false] at h
        split at h
        · rename_i a c ha hc
          split at h
          · rename_i r q hr hq
            cases h
            obtain ⟨va, ra, ha'⟩ := part_run (P := P) (w := w) (D := D) ⟨a1.symm, a2, a3⟩ ha
            obtain ⟨vc, rc, hc'⟩ := part_run (P := P) (w := w) (D := D) ⟨b1.symm, b2, b3⟩ hc
            have hb := eqA_ok d f.type a c r hr D w va vc ha' hc' k
            have hi := ih q hq
            unfold Op.eqFields
            rw [if_pos (by simpa using hn)]
            simp only [Sem.run_bind, ra, rc, hb, Result.andThen_ok, Sem.run_ite, Sem.run_pure]
            cases r
            · simp
            · simpa using hi
          · cases h
        · cases h
    · cases h
def eqO (P : Program) (ops : Array Oper) (s : LS) (i : Nat) : Option (Nat × Bool) :=
  match opAt ops s i with
  | some o =>
    match o.op, o.dst with
    | .binOp op t x y _, some d =>
      match P.underlying t, op, s.ev x, s.ev y with
      | some (.struct _), .eql, .agg xs, .agg ys =>
        bif P.eqGuardType P.depth t then none else match eqA P 20 t (.agg xs) (.agg ys) with
        | some b => some (d, b)
        | none => none
      | some (.struct _), .neq, .agg xs, .agg ys =>
        bif P.eqGuardType P.depth t then none else match eqA P 20 t (.agg xs) (.agg ys) with
        | some b => some (d, !b)
        | none => none
      | _, _, _, _ => none
    | _, _ => none
  | none => none
theorem seqEqS {P : Program} {ops : Array Oper} {K : FS → Prop} {rest : List Nat} {i : Nat} {s s' : LS} {d : Nat} {b : Bool} (h : eqO P ops s i = some (d, b))
    (hs : s.put (some d) (.val (.bool b)) = s') (kk : SeqR P ops K rest s'.fs) : SeqR P ops K (i :: rest) s.fs := by
  unfold eqO at h
  split at h
  · rename_i o ho
    obtain ⟨hi, hg⟩ := opAt_ok ho
    split at h
    · rename_i op t x y yt d' hop hd
      split at h
      · rename_i fs xs ys hu hx hy
        cases hgt : P.eqGuardType P.depth t with
        | true => simp [hgt] at h
        | false =>
        simp only [hgt, cond_false] at h
        split at h
        · rename_i b' hb
          cases h
          refine ⟨o, hi, .inr ⟨hg, .inl ⟨.val (.bool b), .inl fun D w ρ hops => ?_, by rw [hd, LS.fs_put, hs]; exact kk⟩⟩⟩
          have hvx := arg_of hops x (by simp [hop, Op.operands])
          have hvy := arg_of hops y (by simp [hop, Op.operands])
          rw [hx] at hvx
          rw [hy] at hvy
          have hq := eqA_ok 20 t _ _ b hb D w _ _ hvx hvy 9980
          generalize hxv : ρ x = u at hvx hq
          generalize hyv : ρ y = v at hvy hq
          cases hvx with
          | agg _ us a1 a2 a3 =>
          cases hvy with
          | agg _ vs c1 c2 c3 =>
          refine ⟨_, ?_, .val _⟩
          have hq' : (Op.equalIn 10000 t (.agg us) (.agg vs)).run P w = .ok b w := hq
          simp [execOp, hop, hxv, hyv, run_eqGuard_agg _ _ _ _ _ _ _ hgt, run_eql_struct, hq']
        · cases h
      · rename_i fs xs ys hu hx hy
        cases hgt : P.eqGuardType P.depth t with
        | true => simp [hgt] at h
        | false =>
        simp only [hgt, cond_false] at h
        split at h
        · rename_i b' hb
          cases h
          refine ⟨o, hi, .inr ⟨hg, .inl ⟨.val (.bool (!b')), .inl fun D w ρ hops => ?_, by rw [hd, LS.fs_put, hs]; exact kk⟩⟩⟩
          have hvx := arg_of hops x (by simp [hop, Op.operands])
          have hvy := arg_of hops y (by simp [hop, Op.operands])
          rw [hx] at hvx
          rw [hy] at hvy
          have hq := eqA_ok 20 t _ _ b' hb D w _ _ hvx hvy 9980
          generalize hxv : ρ x = u at hvx hq
          generalize hyv : ρ y = v at hvy hq
          cases hvx with
          | agg _ us a1 a2 a3 =>
          cases hvy with
          | agg _ vs c1 c2 c3 =>
          refine ⟨_, ?_, .val _⟩
          have hq' : (Op.equalIn 10000 t (.agg us) (.agg vs)).run P w = .ok b' w := hq
          simp [execOp, hop, hxv, hyv, run_eqGuard_agg _ _ _ _ _ _ _ hgt, run_neq_struct, hq']
        · cases h
      · cases h
    · cases h
  · cases h
end Go.Proofs.Ytpdedjbkfcaebaa
