/- Two arrays of three numbers: are they the same? -/
import Derived.Test.YtoinafcjkbdjnaaNodeMem
import Derived.Laws.StructEq
set_option linter.unusedVariables false
namespace Go.Proofs.Ytoinafcjkbdjnaa
open Go.RowKit Copyhold

theorem eq_int (d : Nat) (a b : Int) (w : World) : (Op.equalIn (d + 1) 3 (.int .i64 a) (.int .i64 b)).run Try.prog w = .ok (a == b) w := run_equalIn_int w d 3 .i64 .i64 a b Try.underlying3

theorem run_arr3 (a b c x y z : Int) (w : World) : (Op.equalIn 10000 61 (.agg #[.int .i64 a, .int .i64 b, .int .i64 c]) (.agg #[.int .i64 x, .int .i64 y, .int .i64 z])).run Try.prog w = .ok (a == x && b == y && c == z) w := by
  show (Op.equalIn (9999 + 1) _ _ _).run _ _ = _
  have hsz : ∀ w, (Go.sizeOf 3).run Try.prog w = .ok 1 w := fun w => by kernel_rfl
  have p0 : ∀ (u0 u1 u2 : Value) w, (part 3 #[u0, u1, u2] 0).run Try.prog w = .ok u0 w := fun _ _ _ _ => by simp [go_sem, part, hsz]
  have p1 : ∀ (u0 u1 u2 : Value) w, (part 3 #[u0, u1, u2] 1).run Try.prog w = .ok u1 w := fun _ _ _ _ => by simp [go_sem, part, hsz]
  have p2 : ∀ (u0 u1 u2 : Value) w, (part 3 #[u0, u1, u2] 2).run Try.prog w = .ok u2 w := fun _ _ _ _ => by simp [go_sem, part, hsz]
  have q := fun a b w => eq_int 9998 a b w
  rw [Op.equalIn]
  simp only [Sem.run_bind, run_underlying Try.underlying61, Result.andThen_ok, hsz, Std.Legacy.Range.forIn_eq_forIn_range', Std.Legacy.Range.size, List.range', List.forIn_cons, List.forIn_nil]
  cases h1 : (a == x) <;> cases h2 : (b == y) <;> cases h3 : (c == z) <;> simp [Sem.run_bind, Result.andThen, p0, p1, p2, q, h1, h2, h3]
end Go.Proofs.Ytoinafcjkbdjnaa
