/- Two arrays of nine numbers: are they the same? -/
import Derived.Test.YtpojhcpkmpbflaaWireNum
import Derived.Laws.StructEq
set_option linter.unusedVariables false
set_option linter.unusedSimpArgs false
namespace Go.Proofs.Ytpojhcpkmpbflaa
open Go.RowKit Copyhold

theorem eq_int (d : Nat) (a b : Int) (w : World) : (Op.equalIn (d + 1) 3 (.int .i64 a) (.int .i64 b)).run Try.prog w = .ok (a == b) w := run_equalIn_int w d 3 .i64 .i64 a b Try.underlying3
set_option maxRecDepth 100000 in
set_option maxHeartbeats 1000000 in
theorem eql_arr9 (r1 r2 r3 r4 r5 r6 r7 r8 r9 q1 q2 q3 q4 q5 q6 q7 q8 q9 : Int) (w : World) :
    (binOp .eql 66 (.agg #[.int .i64 r1, .int .i64 r2, .int .i64 r3, .int .i64 r4, .int .i64 r5, .int .i64 r6, .int .i64 r7, .int .i64 r8, .int .i64 r9]) (.agg #[.int .i64 q1, .int .i64 q2, .int .i64 q3, .int .i64 q4, .int .i64 q5, .int .i64 q6, .int .i64 q7, .int .i64 q8, .int .i64 q9])).run Try.prog w = .ok (.bool (r1 == q1 && (r2 == q2 && (r3 == q3 && (r4 == q4 && (r5 == q5 && (r6 == q6 && (r7 == q7 && (r8 == q8 && (r9 == q9)))))))))) w := by
  have hsz : ∀ w, (Go.sizeOf 3).run Try.prog w = .ok 1 w := fun w => by kernel_rfl
  have p0 : ∀ (u0 u1 u2 u3 u4 u5 u6 u7 u8 : Value) w, (part 3 #[u0, u1, u2, u3, u4, u5, u6, u7, u8] 0).run Try.prog w = .ok u0 w := fun _ _ _ _ _ _ _ _ _ _ => by simp [go_sem, part, hsz]
  have p1 : ∀ (u0 u1 u2 u3 u4 u5 u6 u7 u8 : Value) w, (part 3 #[u0, u1, u2, u3, u4, u5, u6, u7, u8] 1).run Try.prog w = .ok u1 w := fun _ _ _ _ _ _ _ _ _ _ => by simp [go_sem, part, hsz]
  have p2 : ∀ (u0 u1 u2 u3 u4 u5 u6 u7 u8 : Value) w, (part 3 #[u0, u1, u2, u3, u4, u5, u6, u7, u8] 2).run Try.prog w = .ok u2 w := fun _ _ _ _ _ _ _ _ _ _ => by simp [go_sem, part, hsz]
  have p3 : ∀ (u0 u1 u2 u3 u4 u5 u6 u7 u8 : Value) w, (part 3 #[u0, u1, u2, u3, u4, u5, u6, u7, u8] 3).run Try.prog w = .ok u3 w := fun _ _ _ _ _ _ _ _ _ _ => by simp [go_sem, part, hsz]
  have p4 : ∀ (u0 u1 u2 u3 u4 u5 u6 u7 u8 : Value) w, (part 3 #[u0, u1, u2, u3, u4, u5, u6, u7, u8] 4).run Try.prog w = .ok u4 w := fun _ _ _ _ _ _ _ _ _ _ => by simp [go_sem, part, hsz]
  have p5 : ∀ (u0 u1 u2 u3 u4 u5 u6 u7 u8 : Value) w, (part 3 #[u0, u1, u2, u3, u4, u5, u6, u7, u8] 5).run Try.prog w = .ok u5 w := fun _ _ _ _ _ _ _ _ _ _ => by simp [go_sem, part, hsz]
  have p6 : ∀ (u0 u1 u2 u3 u4 u5 u6 u7 u8 : Value) w, (part 3 #[u0, u1, u2, u3, u4, u5, u6, u7, u8] 6).run Try.prog w = .ok u6 w := fun _ _ _ _ _ _ _ _ _ _ => by simp [go_sem, part, hsz]
  have p7 : ∀ (u0 u1 u2 u3 u4 u5 u6 u7 u8 : Value) w, (part 3 #[u0, u1, u2, u3, u4, u5, u6, u7, u8] 7).run Try.prog w = .ok u7 w := fun _ _ _ _ _ _ _ _ _ _ => by simp [go_sem, part, hsz]
  have p8 : ∀ (u0 u1 u2 u3 u4 u5 u6 u7 u8 : Value) w, (part 3 #[u0, u1, u2, u3, u4, u5, u6, u7, u8] 8).run Try.prog w = .ok u8 w := fun _ _ _ _ _ _ _ _ _ _ => by simp [go_sem, part, hsz]
  have q := fun a b w => eq_int 9998 a b w
  rw [run_eql_struct]
  show ((Op.equalIn (9999 + 1) _ _ _).run _ _).andThen _ = _
  rw [Op.equalIn]
  simp only [Sem.run_bind, run_underlying Try.underlying66, Result.andThen_ok, hsz, Std.Legacy.Range.forIn_eq_forIn_range', Std.Legacy.Range.size, List.range', List.forIn_cons, List.forIn_nil]
  by_cases h : r1 = q1
  · subst h
    by_cases h : r2 = q2
    · subst h
      by_cases h : r3 = q3
      · subst h
        by_cases h : r4 = q4
        · subst h
          by_cases h : r5 = q5
          · subst h
            by_cases h : r6 = q6
            · subst h
              by_cases h : r7 = q7
              · subst h
                by_cases h : r8 = q8
                · subst h
                  by_cases h : r9 = q9
                  · subst h
                    simp [Sem.run_bind, Result.andThen, p0, p1, p2, p3, p4, p5, p6, p7, p8, q]
                  · have hne : (r9 == q9) = false := by rw [beq_eq_false_iff_ne]; exact h
                    simp [Sem.run_bind, Result.andThen, p0, p1, p2, p3, p4, p5, p6, p7, p8, q, hne]
                · have hne : (r8 == q8) = false := by rw [beq_eq_false_iff_ne]; exact h
                  simp [Sem.run_bind, Result.andThen, p0, p1, p2, p3, p4, p5, p6, p7, p8, q, hne]
              · have hne : (r7 == q7) = false := by rw [beq_eq_false_iff_ne]; exact h
                simp [Sem.run_bind, Result.andThen, p0, p1, p2, p3, p4, p5, p6, p7, p8, q, hne]
            · have hne : (r6 == q6) = false := by rw [beq_eq_false_iff_ne]; exact h
              simp [Sem.run_bind, Result.andThen, p0, p1, p2, p3, p4, p5, p6, p7, p8, q, hne]
          · have hne : (r5 == q5) = false := by rw [beq_eq_false_iff_ne]; exact h
            simp [Sem.run_bind, Result.andThen, p0, p1, p2, p3, p4, p5, p6, p7, p8, q, hne]
        · have hne : (r4 == q4) = false := by rw [beq_eq_false_iff_ne]; exact h
          simp [Sem.run_bind, Result.andThen, p0, p1, p2, p3, p4, p5, p6, p7, p8, q, hne]
      · have hne : (r3 == q3) = false := by rw [beq_eq_false_iff_ne]; exact h
        simp [Sem.run_bind, Result.andThen, p0, p1, p2, p3, p4, p5, p6, p7, p8, q, hne]
    · have hne : (r2 == q2) = false := by rw [beq_eq_false_iff_ne]; exact h
      simp [Sem.run_bind, Result.andThen, p0, p1, p2, p3, p4, p5, p6, p7, p8, q, hne]
  · have hne : (r1 == q1) = false := by rw [beq_eq_false_iff_ne]; exact h
    simp [Sem.run_bind, Result.andThen, p0, p1, p2, p3, p4, p5, p6, p7, p8, q, hne]

end Go.Proofs.Ytpojhcpkmpbflaa
