/- Two messages, are they the same? -/
import Derived.Test.YtpojhcpkmpbflaaWireLay
import Derived.Laws.StructEq
set_option linter.unusedVariables false
set_option linter.unusedSimpArgs false
namespace Go.Proofs.Ytpojhcpkmpbflaa
open Go.RowKit Copyhold

def sameM (x y : MsgW) : Bool := x.kind == y.kind && (x.client == y.client && (x.epoch == y.epoch && (x.seq == y.seq && (x.n == y.n && (x.stamp == y.stamp && (x.c.kind == y.c.kind && (x.c.ino == y.c.ino && (x.c.dest == y.c.dest && (x.c.pos == y.c.pos && (x.c.many == y.c.many && (x.c.name == y.c.name && (x.c.name2 == y.c.name2 && x.c.text == y.c.text))))))))))))
theorem sameM_iff (x y : MsgW) : sameM x y = true ↔ x = y := by
  obtain ⟨a1, a2, a3, a4, a5, a6, ⟨a7, a8, a9, a10, a11, a12, a13, a14⟩⟩ := x
  obtain ⟨b1, b2, b3, b4, b5, b6, ⟨b7, b8, b9, b10, b11, b12, b13, b14⟩⟩ := y
  unfold sameM
  simp only [Bool.and_eq_true, beq_iff_eq, MsgW.mk.injEq, CallW.mk.injEq]
set_option maxRecDepth 100000 in
set_option maxHeartbeats 8000000 in
theorem eql_msg (m1 m2 m3 m4 m5 m6 k1 k2 k3 k4 k5 n1 n2 n3 n4 n5 n6 l1 l2 l3 l4 l5 : Int) (t1 t2 t3 u1 u2 u3 : List UInt8) (w : World) :
    (binOp .eql 25 (.agg #[.int .i64 m1, .int .i64 m2, .int .i64 m3, .int .i64 m4, .int .i64 m5, .int .i64 m6, .int .i64 k1, .int .i64 k2, .int .i64 k3, .int .i64 k4, .int .i64 k5, .string ⟨t1.toArray⟩, .string ⟨t2.toArray⟩, .string ⟨t3.toArray⟩]) (.agg #[.int .i64 n1, .int .i64 n2, .int .i64 n3, .int .i64 n4, .int .i64 n5, .int .i64 n6, .int .i64 l1, .int .i64 l2, .int .i64 l3, .int .i64 l4, .int .i64 l5, .string ⟨u1.toArray⟩, .string ⟨u2.toArray⟩, .string ⟨u3.toArray⟩])).run Try.prog w = .ok (.bool (sameM ⟨m1, m2, m3, m4, m5, m6, ⟨k1, k2, k3, k4, k5, t1, t2, t3⟩⟩ ⟨n1, n2, n3, n4, n5, n6, ⟨l1, l2, l3, l4, l5, u1, u2, u3⟩⟩)) w := by
  by_cases h : m1 = n1
  · subst h
    by_cases h : m2 = n2
    · subst h
      by_cases h : m3 = n3
      · subst h
        by_cases h : m4 = n4
        · subst h
          by_cases h : m5 = n5
          · subst h
            by_cases h : m6 = n6
            · subst h
              by_cases h : k1 = l1
              · subst h
                by_cases h : k2 = l2
                · subst h
                  by_cases h : k3 = l3
                  · subst h
                    by_cases h : k4 = l4
                    · subst h
                      by_cases h : k5 = l5
                      · subst h
                        by_cases h : t1 = u1
                        · subst h
                          by_cases h : t2 = u2
                          · subst h
                            by_cases h : t3 = u3
                            · subst h
                              simp [go_sem, sameM]
                            · have hne : (t3 == u3) = false := by rw [beq_eq_false_iff_ne]; exact h
                              simp [go_sem, sameM, hne, h]
                          · have hne : (t2 == u2) = false := by rw [beq_eq_false_iff_ne]; exact h
                            simp [go_sem, sameM, hne, h]
                        · have hne : (t1 == u1) = false := by rw [beq_eq_false_iff_ne]; exact h
                          simp [go_sem, sameM, hne, h]
                      · have hne : (k5 == l5) = false := by rw [beq_eq_false_iff_ne]; exact h
                        simp [go_sem, sameM, hne, h]
                    · have hne : (k4 == l4) = false := by rw [beq_eq_false_iff_ne]; exact h
                      simp [go_sem, sameM, hne, h]
                  · have hne : (k3 == l3) = false := by rw [beq_eq_false_iff_ne]; exact h
                    simp [go_sem, sameM, hne, h]
                · have hne : (k2 == l2) = false := by rw [beq_eq_false_iff_ne]; exact h
                  simp [go_sem, sameM, hne, h]
              · have hne : (k1 == l1) = false := by rw [beq_eq_false_iff_ne]; exact h
                simp [go_sem, sameM, hne, h]
            · have hne : (m6 == n6) = false := by rw [beq_eq_false_iff_ne]; exact h
              simp [go_sem, sameM, hne, h]
          · have hne : (m5 == n5) = false := by rw [beq_eq_false_iff_ne]; exact h
            simp [go_sem, sameM, hne, h]
        · have hne : (m4 == n4) = false := by rw [beq_eq_false_iff_ne]; exact h
          simp [go_sem, sameM, hne, h]
      · have hne : (m3 == n3) = false := by rw [beq_eq_false_iff_ne]; exact h
        simp [go_sem, sameM, hne, h]
    · have hne : (m2 == n2) = false := by rw [beq_eq_false_iff_ne]; exact h
      simp [go_sem, sameM, hne, h]
  · have hne : (m1 == n1) = false := by rw [beq_eq_false_iff_ne]; exact h
    simp [go_sem, sameM, hne, h]
end Go.Proofs.Ytpojhcpkmpbflaa
