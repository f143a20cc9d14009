/- A range over a map without entries, over abstract states: nothing is done. Over any program. -/
import Derived.Test.YtgcjfhgkkgocpaaRules7
import Derived.MapKept
set_option linter.unusedVariables false
set_option linter.unusedSimpArgs false
namespace Go.Proofs.Ytgcjfhgkkgocpaa
open Go Go.RowKit Copyhold
def seqN : Nat → Code → Code
  | 0, c => c
  | n + 1, .seq _ y => seqN n y
  | _ + 1, c => c
theorem wpOps_val {P : Program} {ops : Array Oper} {Q : Exit → Act → World → Prop} {i : Nat} {rest : List Nat} {a : Act} {w w' : World} {o : Oper} {v : Value} (ho : ops[i]? = some o) (hg : o.guard = none)
    (hx : (execOp a.eval o).run P w = .ok (.value v) w') (k : wpOps P ops Q rest (a.put o.dst v) w') : wpOps P ops Q (i :: rest) a w := by
  simp only [wpOps, ho]
  rw [if_pos (by unfold Region.wanted; rw [hg])]
  left
  unfold Oper.wp
  rw [hx, Oper.upon_value]
  exact k
theorem eval_put {a : Act} {d : Nat} {v : Value} (h : d < a.tmps.size) : (a.put (some d) v).eval (.tmp d) = v := by
  simp [Act.put, Act.eval, h]
theorem size_put (a : Act) (d : Option Tmp) (v : Value) : (a.put d v).tmps.size = a.tmps.size := by
  cases d <;> simp [Act.put]
def rnR (m : Nat) (s : LS) : Option Unit :=
  match lget s.tm m with
  | .mp [] => some ()
  | _ => none
theorem rule_rngNil {P : Program} {nt m x it nx t id7 id8 bid ty : Nat} {o0 o1 o2 o3 : Oper} {B Y code : Code} {kt et : TypeId}
    (hc : code = .seq (.seq (.region id7 #[o0, o1] false) (.block bid (.loop (.seq (.region id8 #[o2, o3] false) (.seq (.cond (.tmp t) .skip (.exit bid)) B))))) Y)
    (h0 : o0.op = .move (.tmp m) ∧ o0.dst = some x ∧ o0.guard = none) (h1 : o1.op = .range ty (.tmp x) ∧ o1.dst = some it ∧ o1.guard = none) (hu : P.underlying ty = some (.map kt et))
    (h2 : o2.op = .next (.tmp it) false ∧ o2.dst = some nx ∧ o2.guard = none) (h3 : o3.op = .extract (.tmp nx) 0 ∧ o3.dst = some t ∧ o3.guard = none)
    (hn : m < nt ∧ x < nt ∧ it < nt ∧ nx < nt ∧ t < nt) :
    ∀ (c : Cx) (Q : Exit → FS → Prop) (s : LS), c.n = nt → P.follows .mixedOrders = true → rnR m s = some () → (∀ _ : Unit, AWp c P Y Q ((((s.put (some x) .any).put (some it) .any).put (some nx) .any).put (some t) .any).fs) → AWp c P code Q s.fs := by
  subst hc
  intro c Q s hcn hm hrd kk a w hr
  obtain ⟨hcb, D, hR⟩ := hr
  obtain ⟨n1, n2, n3, n4, n5⟩ := hn
  have hmp : lget s.tm m = .mp [] := by
    unfold rnR at hrd
    split at hrd
    · assumption
    · cases hrd
  have hv := hR.ev (.tmp m) (fun t' e => by cases e; rw [hcn]; exact n1)
  have hev : s.fs.ev (.tmp m) = .mp [] := hmp
  rw [hev] at hv
  have hsz : a.tmps.size = nt := hR.size.trans hcn
  generalize hva : a.eval (.tmp m) = v at hv
  cases hv with
  | mp es r es' clock hDr hlt hhp hlen hkeys hvals =>
    have hes : es' = #[] := Array.eq_empty_of_size_eq_zero (by simpa using hlen.symm)
    subst hes
    refine wp_seq (wp_seq (wp_region ?_))
    show wpOps P #[o0, o1] _ [0, 1] a w
    refine wpOps_val (o := o0) rfl h0.2.2 (v := .map (some r)) (w' := w) (by simp [execOp, h0.1, hva]) ?_
    rw [h0.2.1]
    have he1 := eval_put (a := a) (d := x) (v := .map (some r)) (by omega)
    have hs1 := size_put a (some x) (.map (some r))
    refine wpOps_val (o := o1) rfl h1.2.2 (v := .pointer (some ⟨w.heap.size, 0, none⟩)) (w' := w.alloc (.mapIter (some r) clock #[] clock)) (by
      simp [execOp, h1.1, he1, Instr.range, run_underlying hu, getObj, Sem.run, hhp, newObj]) ?_
    rw [h1.2.1]
    generalize ha1 : a.put (some x) (.map (some r)) = a1 at he1 hs1
    have hD1 : RelD c D (s.put (some x) .any).fs a1 w := by
      rw [← LS.fs_put, ← ha1]; exact hR.put _ (.any _)
    have he2 := eval_put (a := a1) (d := it) (v := .pointer (some ⟨w.heap.size, 0, none⟩)) (by omega)
    have hs2 := size_put a1 (some it) (.pointer (some ⟨w.heap.size, 0, none⟩))
    generalize ha2 : a1.put (some it) (.pointer (some ⟨w.heap.size, 0, none⟩)) = a2 at he2 hs2
    obtain ⟨w2, hw2⟩ : ∃ w2, w2 = w.alloc (.mapIter (some r) clock #[] clock) := ⟨_, rfl⟩
    have hb2 : Below w.heap.size w w2 := hw2 ▸ (Below.refl _ _).alloc (Nat.le_refl _) _
    have hit : w2.heap[w.heap.size]? = some (.mapIter (some r) clock #[] clock) := hw2 ▸ heap_alloc_new w _
    have hmap : w2.heap[r]? = some (.map #[] clock) := (hb2.block r hlt).trans hhp
    rw [← hw2]
    have hD2 : RelD c D ((s.put (some x) .any).put (some it) .any).fs a2 w2 := by
      have h := hD1.grow (D' := D) hcb hb2 (fun _ h => h) (fun b h => ⟨Nat.lt_of_lt_of_le (hR.dlt b h) hb2.size, .inl h⟩) none (fun id y h => by cases h)
      rw [← LS.fs_put, ← ha2]; exact h.put _ (.any _)
    show Code.wp P _ _ a2 w2
    refine wp_block (wp_loop (fun a' w' => a' = a2 ∧ w' = w2) (fun _ _ => 0) ⟨rfl, rfl⟩ fun a' w' ⟨e1, e2⟩ => ?_)
    subst e1 e2
    refine wp_seq (wp_region ?_)
    show wpOps P #[o2, o3] _ [0, 1] a' w'
    refine wpOps_val (o := o2) rfl h2.2.2 (v := .tuple #[.bool false]) (w' := w') (by
      simp [execOp, h2.1, he2, Instr.next, getObj, Sem.run, hit, hmap, choose, Question.cut, Question.forced]) ?_
    rw [h2.2.1]
    have he3 := eval_put (a := a') (d := nx) (v := .tuple #[.bool false]) (by omega)
    have hs3 := size_put a' (some nx) (.tuple #[.bool false])
    refine wpOps_val (o := o3) rfl h3.2.2 (v := .bool false) (w' := w') (by simp [execOp, h3.1, he3, Instr.extract]) ?_
    rw [h3.2.1]
    have he4 := eval_put (a := a'.put (some nx) (.tuple #[.bool false])) (d := t) (v := .bool false) (by omega)
    show Code.wp P _ _ _ _
    refine wp_seq (wp_cond_false he4 (wp_exit ?_))
    show Exit.inBlock bid _ (.exit bid) _ _
    simp only [Exit.inBlock, if_true]
    refine kk () _ _ ⟨Nat.le_trans hcb hb2.size, D, ?_⟩
    rw [← LS.fs_put _ (some t), ← LS.fs_put _ (some nx)]
    exact (hD2.put _ (.any _)).put _ (.any _)
end Go.Proofs.Ytgcjfhgkkgocpaa
