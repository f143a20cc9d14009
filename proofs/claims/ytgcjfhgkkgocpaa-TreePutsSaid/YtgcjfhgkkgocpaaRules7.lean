/- Rules for a certificate's open nodes: the greater of two numbers; shifts; conversions between kinds of numbers. Over any program. -/
import Derived.Test.YtgcjfhgkkgocpaaRulesM
import Derived.Test.YtgcjfhgkkgocpaaAbsBr
import Derived.Test.YtgcjfhgkkgocpaaCat
set_option linter.unusedVariables false
set_option linter.unusedSimpArgs false
namespace Go.Proofs.Ytgcjfhgkkgocpaa
open Go Go.RowKit Copyhold
def mxR (ops : Array Oper) (s : LS) (i : Nat) : Option (Int × Int × Option Tmp) :=
  match opAt ops s i with
  | some o =>
    match o.op with
    | .call c =>
      match c.callee, c.args.toList with
      | .builtin .max, [x, y] =>
        match s.ev x, s.ev y with
        | .val (.int .i64 a), .val (.int .i64 b) => some (a, b, o.dst)
        | _, _ => none
      | _, _ => none
    | _ => none
  | none => none
theorem rule_mx {P : Program} {a b : Int} {d : Option Tmp} :
    ∀ (ops : Array Oper) (i : Nat) (s : LS) (K : FS → Prop) (rest : List Nat), mxR ops s i = some (a, b, d) → (∀ _ : Unit, SeqR P ops K rest (s.put d (aI (if b > a then b else a))).fs) → SeqR P ops K (i :: rest) s.fs := by
  intro ops i s K rest h kk
  unfold mxR at h
  split at h
  · rename_i o ho
    obtain ⟨hi, hg⟩ := opAt_ok ho
    split at h
    · rename_i c hop
      split at h
      · rename_i x y hc ha
        split at h
        · rename_i a' b' hx hy
          simp only [Option.some.injEq, Prod.mk.injEq] at h
          obtain ⟨rfl, rfl, rfl⟩ := h
          refine ⟨o, hi, .inr ⟨hg, .inl ⟨_, .inl fun D w ρ hops => ?_, by rw [LS.fs_put]; exact kk ()⟩⟩⟩
          obtain ⟨callee, args, cts⟩ := c
          simp only at hc ha
          subst hc
          have ha' : args = #[x, y] := by have := congrArg List.toArray ha; simpa using this
          subst ha'
          have hv := arg_of hops x (by simp [hop, Op.operands, Call.operands])
          have hv2 := arg_of hops y (by simp [hop, Op.operands, Call.operands])
          rw [hx] at hv
          rw [hy] at hv2
          generalize hvv : ρ x = v at hv
          generalize hvv2 : ρ y = v2 at hv2
          cases hv
          cases hv2
          exact ⟨.int .i64 (if b' > a' then b' else a'), by simp [execOp, hop, resolve, invoke, builtin, hvv, hvv2, Builtin.max_, Builtin.max2], .val _⟩
        · cases h
      · cases h
    · cases h
  · cases h
theorem conv_int {P : Program} {a b : TypeId} {k k' : IntKind} {n : Int} (ha : P.underlying a = some (.int k)) (hb : P.underlying b = some (.int k')) (hw : rng k' n) : ∀ w, (Go.convert a b (.int k n)).run P w = .ok (.int k' n) w := fun w => by
  simp [Go.convert, run_underlying ha, run_underlying hb, Conv.intToInt, rng_wrap hw]
theorem rngu {z : Int} (h1 : 0 ≤ z) (h2 : z ≤ 18446744073709551615) : rng .u64 z := ⟨h1, h2⟩
theorem shrN {P : Program} {t : TypeId} {yk : IntKind} {a : Int} {b : Nat} (hb : b ≤ 64) (D : Nat → Prop) (w : World) (xo yo : Operand) (u v : Value) (hu : Ra D w (.val (.int .u64 a)) u) (hv : Ra D w (.val (.int yk (b : Int))) v) :
    ∃ r, ((do Go.eqGuard .shr t xo yo u v; Go.binOp .shr t u v) : Sem Value).run P w = .ok r w ∧ Ra D w (.val (.int .u64 (a / 2 ^ b))) r := by
  cases hu; cases hv
  refine ⟨_, ?_, .val _⟩
  have h1 : ¬ (b : Int) < 0 := by omega
  have h2 : min ((b : Int)).toNat IntKind.u64.bits = b := by show min ((b : Int)).toNat 64 = b; omega
  simp [eqGuard, binOp, Op.shift, h1, h2]
theorem fdiv2 (n : Nat) : (n : Int) / 2 ^ 1 = ((n / 2 : Nat) : Int) := by
  show (n : Int) / 2 = _
  omega
theorem grow_row' {P : Program} {f : FuncId} {e k : Nat} {n : Nat} (h : ∀ w, Calls P f #[.slice none 0 0, .int .i64 (n : Int)] w (RetOwn w e k 0 [])) : RowSpec P f [aN, aI (n : Int)] e k [] := by
  intro D w vs hD hv
  obtain ⟨u, v, rfl, hu, hv2⟩ := hv.two
  cases hu
  cases hv2
  refine (h w).mono ?_
  rintro r w' ⟨V, rfl, hown, hb⟩
  exact ⟨V, [], rfl, hb, hown, by simp, fun j a u ha => by simp at ha⟩
end Go.Proofs.Ytgcjfhgkkgocpaa
