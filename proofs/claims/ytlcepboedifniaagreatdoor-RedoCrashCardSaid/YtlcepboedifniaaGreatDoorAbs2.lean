/- Steps of operations over abstract states, and the orders of a region: one order, checked by program, stands for all. Over any program. No conditions beyond each law's own. -/
import Derived.Test.YtlcepboedifniaaGreatDoorAbs1
set_option linter.unusedVariables false
namespace Copyhold
open Go Go.RowKit
def isLd : Op → Bool
  | .load _ _ | .convert _ _ _ => true
  | _ => false
def isRd (P : Program) : Op → Bool
  | .binOp _ t _ _ _ =>
    match P.underlying t with
    | some (.slice _) => false
    | _ => true
  | .move _ | .assign _ | .pick _ _ _ | .fieldAddr _ _ _ | .field _ _ _ | .extract _ _ | .unOp _ _ _ | .load _ _ | .indexAddr _ _ _ | .index _ _ _
  | .slice _ _ _ _ _ | .convert _ _ _ | .build _ _ | .makeFunc _ _ _ | .nilCheck _ => true
  | .call { callee := .builtin .len, .. } | .call { callee := .builtin .cap, .. } | .call { callee := .builtin .max, .. } | .call { callee := .builtin .min, .. }
  | .call { callee := .builtin .real, .. } | .call { callee := .builtin .imag, .. } | .call { callee := .builtin .complex, .. } => true
  | _ => false
def isMut : Op → Bool
  | .store _ _ _ | .insert _ _ _ _ | .mapUpdate _ _ _ _ => true
  | .call { callee := .builtin .append, .. } | .call { callee := .builtin .copy, .. } => true
  | _ => false
def gd (ops : Array Oper) (s : FS) (o : Oper) : Option Bool :=
  match o.guard with
  | none => some true
  | some (j, c) =>
    match (ops[j]?).bind (·.dst) with
    | some t =>
      match s.tm t with
      | .val (.bool b) => some (b == c)
      | .val (.tuple _) => some false
      | _ => none
    | none => none
def opsR (D : Nat → Prop) (w : World) (s : FS) (ρ : Operand → Value) (o : Oper) : Prop := ∀ y ∈ o.op.operands, Ra D w (s.ev y) (ρ y)
def PureOK (P : Program) (o : Oper) (s : FS) (x : AV) : Prop :=
  ∀ (D : Nat → Prop) (w : World) (ρ : Operand → Value), opsR D w s ρ o → ∃ v, (execOp ρ o).run P w = .ok (.value v) w ∧ Ra D w x v
def ReadOK (P : Program) (o : Oper) (s : FS) (x : AV) : Prop :=
  ∀ (D : Nat → Prop) (w : World) (ρ : Operand → Value), opsR D w s ρ o → (∀ id y, s.bx id = some y → BoxR D w y) → ∃ v, (execOp ρ o).run P w = .ok (.value v) w ∧ Ra D w x v
def MonoOK (P : Program) (o : Oper) (s : FS) (Out : AV → Option (Nat × Bx) → Prop) : Prop :=
  ∀ (D : Nat → Prop) (w : World) (a : Act) (Q : Exit → Act → World → Prop) (K : Act → World → Prop), (∀ b, D b → b < w.heap.size) → opsR D w s a.eval o → (∀ id y, s.bx id = some y → BoxR D w y) →
    (∀ v w' x nb (D' : Nat → Prop), Out x nb → Below w.heap.size w w' → (∀ b, D b → D' b) → (∀ b, D' b → b < w'.heap.size ∧ (D b ∨ w.heap.size ≤ b)) → Ra D' w' x v →
      (∀ id y, nb = some (id, y) → (∀ g, y.blk = some g → w.heap.size ≤ g ∧ ¬ D' g) ∧ BoxR D' w' y) → K (a.put o.dst v) w') → o.wp P a w K Q
def MutOK (P : Program) (o : Oper) (s : FS) (id : Nat) (Out : AV → Bx → Prop) : Prop :=
  ∀ (D : Nat → Prop) (w : World) (a : Act) (Q : Exit → Act → World → Prop) (K : Act → World → Prop), (∀ b, D b → b < w.heap.size) → opsR D w s a.eval o → (∀ id y, s.bx id = some y → BoxR D w y) →
    (∀ y g, s.bx id = some y → y.blk = some g → ¬ D g) →
    (∀ v w' x y y', Out x y' → s.bx id = some y → Below 0 w w' → (∀ k, y.blk ≠ some k → k < w.heap.size → w'.heap[k]? = w.heap[k]?) → (∀ g, y'.blk = some g → (y.blk = some g ∨ w.heap.size ≤ g) ∧ ¬ D g) →
      BoxR D w' y' → Ra D w' x v → K (a.put o.dst v) w') → o.wp P a w K Q
def MutF (P : Program) (o : Oper) (s : FS) (id : Nat) (Out : AV → Bx → Prop) : Prop :=
  ∀ (D : Nat → Prop) (w : World) (a : Act) (Q : Exit → Act → World → Prop) (K : Act → World → Prop), (∀ b, D b → b < w.heap.size) → opsR D w s a.eval o → (∀ id y, s.bx id = some y → BoxR D w y) →
    (∀ y g, s.bx id = some y → y.blk = some g → ¬ D g) →
    (∀ v w' x y y' (D' : Nat → Prop), Out x y' → s.bx id = some y → Below 0 w w' → (∀ k, y.blk ≠ some k → k < w.heap.size → w'.heap[k]? = w.heap[k]?) → (∀ b, D b → D' b) → (∀ b, D' b → b < w'.heap.size ∧ (D b ∨ y.blk = some b ∨ w.heap.size ≤ b)) →
      (∀ g, y'.blk = some g → (y.blk = some g ∨ w.heap.size ≤ g) ∧ ¬ D' g) → BoxR D' w' y' → Ra D' w' x v → K (a.put o.dst v) w') → o.wp P a w K Q
theorem MutOK.up {P : Program} {o : Oper} {s : FS} {id : Nat} {Out : AV → Bx → Prop} (h : MutOK P o s id Out) : MutF P o s id Out := fun D w a Q K hD ho hb hn hc =>
  h D w a Q K hD ho hb hn (fun v w' x y y' hO hy h0 hk hb' hB hv => hc v w' x y y' D hO hy h0 hk (fun _ h => h) (fun b hd => ⟨Nat.lt_of_lt_of_le (hD b hd) h0.size, .inl hd⟩) hb' hB hv)
def StepR (P : Program) (ops : Array Oper) (i : Nat) (s : FS) (K : FS → Prop) : Prop :=
  ∃ o, ops[i]? = some o ∧
    ((gd ops s o = some false ∧ K (s.put o.dst (.val undef))) ∨
     (gd ops s o = some true ∧
      ((∃ x, (PureOK P o s x ∨ (isLd o.op = true ∧ ReadOK P o s x)) ∧ K (s.put o.dst x)) ∨
       (isRd P o.op = false ∧ ∃ Out, MonoOK P o s Out ∧ ∀ x nb, Out x nb → (∀ id y, nb = some (id, y) → s.bx id = none) ∧ K ((s.put o.dst x).addB nb)) ∨
       (isRd P o.op = false ∧ isMut o.op = true ∧ ∃ id Out, MutF P o s id Out ∧ ∀ x y', Out x y' → K ((s.put o.dst x).setB id (some y'))))))
theorem StepR.mono {P : Program} {ops : Array Oper} {i : Nat} {s : FS} {K K' : FS → Prop} (h : StepR P ops i s K) (hk : ∀ s, K s → K' s) : StepR P ops i s K' := by
  obtain ⟨o, ho, h⟩ := h
  refine ⟨o, ho, ?_⟩
  rcases h with ⟨h1, h2⟩ | ⟨h1, h | ⟨h2, Out, h3, h4⟩ | ⟨h2, h3, id, Out, h4, h5⟩⟩
  · exact .inl ⟨h1, hk _ h2⟩
  · obtain ⟨x, hx, h2⟩ := h
    exact .inr ⟨h1, .inl ⟨x, hx, hk _ h2⟩⟩
  · exact .inr ⟨h1, .inr (.inl ⟨h2, Out, h3, fun x nb hO => ⟨(h4 x nb hO).1, hk _ (h4 x nb hO).2⟩⟩)⟩
  · exact .inr ⟨h1, .inr (.inr ⟨h2, h3, id, Out, h4, fun x y hO => hk _ (h5 x y hO)⟩)⟩
def slotsOk (n : Nat) (ops : Array Oper) : Bool :=
  ops.all fun o => (match o.dst with | some d => decide (d < n) | none => true) && o.op.operands.all fun | .tmp t => decide (t < n) | _ => true
theorem slotsOk_dst {n : Nat} {ops : Array Oper} (h : slotsOk n ops = true) {i : Nat} {o : Oper} (ho : ops[i]? = some o) {d : Nat} (hd : o.dst = some d) : d < n := by
  have := Array.all_eq_true_iff_forall_mem.1 h o (Array.mem_of_getElem? ho)
  simp [hd] at this
  exact this.1
theorem slotsOk_op {n : Nat} {ops : Array Oper} (h : slotsOk n ops = true) {i : Nat} {o : Oper} (ho : ops[i]? = some o) {y : Operand} (hy : y ∈ o.op.operands) : ∀ t, y = .tmp t → t < n := by
  intro t ht
  have := Array.all_eq_true_iff_forall_mem.1 h o (Array.mem_of_getElem? ho)
  simp only [Bool.and_eq_true] at this
  have := Array.all_eq_true_iff_forall_mem.1 this.2 y hy
  subst ht
  simpa using this
theorem gd_wanted {c : Cx} {D : Nat → Prop} {ops : Array Oper} {s : FS} {a : Act} {w : World} (hs : slotsOk c.n ops = true) (h : RelD c D s a w) {o : Oper} {b : Bool} (hg : gd ops s o = some b) : Region.wanted o (yielded ops a.tmps) = b := by
  unfold gd at hg
  unfold Region.wanted
  split at hg
  · rename_i e
    rw [e]
    exact Option.some.inj hg
  · rename_i j d e
    rw [e]
    split at hg
    · rename_i t ht
      split at hg
      · rename_i b' hb
        obtain rfl := Option.some.inj hg
        cases hj : ops[j]? with
        | none => rw [hj] at ht; cases ht
        | some oj =>
          rw [hj] at ht
          have hlt := slotsOk_dst hs hj ht
          rw [← h.size] at hlt
          have hv := h.tm t a.tmps[t] (Array.getElem?_eq_getElem hlt)
          rw [hb] at hv
          generalize hvv : a.tmps[t] = v at hv
          cases hv
          have : yielded ops a.tmps j = some b' := by
            unfold yielded
            rw [hj]
            have h1 : a.tmps[t]? = some (.bool b') := by rw [Array.getElem?_eq_getElem hlt, hvv]
            have h2 : oj.dst = some t := ht
            simp [h1, h2]
          simp [this]
      · rename_i vs hb
        obtain rfl := Option.some.inj hg
        cases hj : ops[j]? with
        | none => rw [hj] at ht; cases ht
        | some oj =>
          rw [hj] at ht
          have hlt := slotsOk_dst hs hj ht
          rw [← h.size] at hlt
          have hv := h.tm t a.tmps[t] (Array.getElem?_eq_getElem hlt)
          rw [hb] at hv
          generalize hvv : a.tmps[t] = v at hv
          cases hv
          have : yielded ops a.tmps j = none := by
            unfold yielded
            rw [hj]
            have h1 : a.tmps[t]? = some (.tuple vs) := by rw [Array.getElem?_eq_getElem hlt, hvv]
            have h2 : oj.dst = some t := ht
            simp [h1, h2]
          simp [this]
      · cases hg
    · cases hg
theorem put_addB (s : FS) (d : Option Tmp) (x : AV) (nb : Option (Nat × Bx)) : (s.addB nb).put d x = (s.put d x).addB nb := by
  cases d <;> rcases nb with _ | ⟨id, y⟩ <;> rfl
theorem put_setB (s : FS) (d : Option Tmp) (x : AV) (id : Nat) (y : Option Bx) : (s.setB id y).put d x = (s.put d x).setB id y := by
  cases d <;> rfl
theorem put_comm (s : FS) (d e : Option Tmp) (x y : AV) (h : ∀ t, d = some t → e ≠ some t) : (s.put d x).put e y = (s.put e y).put d x := by
  cases d with
  | none => cases e <;> rfl
  | some d =>
    cases e with
    | none => rfl
    | some e =>
      have hne : d ≠ e := fun he => h d rfl (by rw [he])
      simp only [FS.put, FS.mk.injEq, and_true]
      funext t
      by_cases h1 : t = e
      · have : t ≠ d := fun h2 => hne (h2.symm.trans h1)
        subst h1
        simp [this]
      · simp [h1]
theorem StepR.sound {c : Cx} {P : Program} {ops : Array Oper} {i : Nat} {s : FS} {K : FS → Prop} {a : Act} {w : World} {Q : Exit → Act → World → Prop} (hs : slotsOk c.n ops = true) (h : StepR P ops i s K) (hr : Rel c s a w) :
    wpOp P ops Q i (fun a' w' => ∃ s', K s' ∧ Rel c s' a' w') a w := by
  obtain ⟨o, ho, h⟩ := h
  obtain ⟨hc, D, hR⟩ := hr
  have hops : opsR D w s a.eval o := fun y hy => hR.ev y (slotsOk_op hs ho hy)
  unfold wpOp
  simp only [ho]
  rcases h with ⟨h1, h2⟩ | ⟨h1, h | ⟨h2, Out, h3, h4⟩ | ⟨h2, h3, id, Out, h4, h5⟩⟩
  · rw [if_neg (by rw [gd_wanted hs hR h1]; simp)]
    exact ⟨_, h2, hc, D, hR.put _ (.val _)⟩
  · obtain ⟨x, hx, h2⟩ := h
    rw [if_pos (gd_wanted hs hR h1)]
    left
    have : ∃ v, (execOp a.eval o).run P w = .ok (.value v) w ∧ Ra D w x v := by
      rcases hx with hx | ⟨_, hx⟩
      · exact hx D w _ hops
      · exact hx D w _ hops hR.boxes
    obtain ⟨v, hv, hxv⟩ := this
    unfold Oper.wp
    rw [hv, Oper.upon_value]
    exact ⟨_, h2, hc, D, hR.put _ hxv⟩
  · rw [if_pos (gd_wanted hs hR h1)]
    left
    refine h3 D w a Q _ hR.dlt hops hR.boxes (fun v w' x nb D' hO hb hD hD' hv hnb => ?_)
    obtain ⟨hf, hk⟩ := h4 x nb hO
    refine ⟨_, hk, Nat.le_trans hc hb.size, D', ?_⟩
    rw [← put_addB]
    exact (hR.grow hc hb hD hD' nb (fun id y hy => ⟨hf id y hy, hnb id y hy⟩)).put _ hv
  · rw [if_pos (gd_wanted hs hR h1)]
    left
    refine h4 D w a Q _ hR.dlt hops hR.boxes (fun y g hy hg => ((hR.bx id y hy).1 g hg).2) (fun v w' x y y' D' hO hy h0 hk hDD hD' hb hB hv => ?_)
    refine ⟨_, h5 x y' hO, Nat.le_trans hc h0.size, D', ?_⟩
    rw [← put_setB]
    exact (hR.mutF hc id y y' hy h0 hk hDD hD' hb hB).put _ hv
def aAny (P : Program) (ops : Array Oper) (K : FS → Prop) : Nat → Array Bool → FS → Prop
  | 0, l, s => Region.ready .any ops l = [] ∧ K s
  | f + 1, l, s => (Region.ready .any ops l = [] → K s) ∧ ∀ i ∈ Region.ready .any ops l, StepR P ops i s (aAny P ops K f (l.setIfInBounds i true))
theorem aAny_sound {c : Cx} {P : Program} {ops : Array Oper} {K : FS → Prop} {Q : Exit → Act → World → Prop} (hs : slotsOk c.n ops = true) (hQ : ∀ s a w, K s → Rel c s a w → Q .normal a w) :
    ∀ (f : Nat) (l : Array Bool) (s : FS) (a : Act) (w : World), aAny P ops K f l s → Rel c s a w → wpAny P .any ops Q f l a w
  | 0, l, s, a, w, h, hr => ⟨h.1, hQ _ _ _ h.2 hr⟩
  | f + 1, l, s, a, w, h, hr => ⟨fun he => hQ _ _ _ (h.1 he) hr, fun i hi => wpOp_mono (fun a' w' ⟨s', h', hr'⟩ => aAny_sound hs hQ f _ s' a' w' h' hr') ((h.2 i hi).sound hs hr)⟩
def Yld (P : Program) (ops : Array Oper) (o : Oper) (s : FS) (x : AV) : Prop :=
  (gd ops s o = some false ∧ x = .val undef) ∨ (gd ops s o = some true ∧ (PureOK P o s x ∨ (isLd o.op = true ∧ ReadOK P o s x)))
theorem ev_put {ops : Array Oper} {o : Oper} {s : FS} {d : Option Tmp} {x : AV} (h : ∀ t, d = some t → t ∉ o.looksAt ops) {y : Operand} (hy : y ∈ o.op.operands) : (s.put d x).ev y = s.ev y := by
  cases d with
  | none => rfl
  | some d =>
    cases y with
    | tmp t =>
      have hne : t ≠ d := fun e => h d rfl (by
        subst e
        exact List.mem_append_left _ (List.mem_filterMap.2 ⟨.tmp t, by simpa using hy, rfl⟩))
      simp [FS.ev, FS.put, hne]
    | _ => rfl
theorem gd_put {ops : Array Oper} {o : Oper} {s : FS} {d : Option Tmp} {x : AV} (h : ∀ t, d = some t → t ∉ o.looksAt ops) : gd ops (s.put d x) o = gd ops s o := by
  cases d with
  | none => rfl
  | some d =>
    unfold gd
    cases hg : o.guard with
    | none => rfl
    | some gw =>
      obtain ⟨g, want⟩ := gw
      simp only
      cases ht : (ops[g]?).bind (·.dst) with
      | none => rfl
      | some t =>
        have hne : t ≠ d := fun e => h d rfl (by subst e; simp [Oper.looksAt, hg, ht])
        simp [FS.put, hne]
theorem opsR_put {ops : Array Oper} {D : Nat → Prop} {w : World} {o : Oper} {s : FS} {d : Option Tmp} {x : AV} {ρ : Operand → Value} (h : ∀ t, d = some t → t ∉ o.looksAt ops) : opsR D w (s.put d x) ρ o ↔ opsR D w s ρ o := by
  unfold opsR
  constructor
  · intro hh y hy
    have := hh y hy
    rwa [ev_put h hy] at this
  · intro hh y hy
    rw [ev_put h hy]
    exact hh y hy
theorem bx_put (s : FS) (d : Option Tmp) (x : AV) : (s.put d x).bx = s.bx := by cases d <;> rfl
theorem gd_tm {ops : Array Oper} {o : Oper} {s s' : FS} (h : s'.tm = s.tm) : gd ops s' o = gd ops s o := by unfold gd; rw [h]
theorem opsR_tm {D : Nat → Prop} {w : World} {o : Oper} {s s' : FS} {ρ : Operand → Value} (h : s'.tm = s.tm) : opsR D w s' ρ o ↔ opsR D w s ρ o := by
  have : ∀ y, s'.ev y = s.ev y := fun y => by cases y <;> simp [FS.ev, h]
  unfold opsR
  simp only [this]
theorem PureOK.put {P : Program} {ops : Array Oper} {o : Oper} {s : FS} {d : Option Tmp} {x u : AV} (h : ∀ t, d = some t → t ∉ o.looksAt ops) : PureOK P o (s.put d u) x ↔ PureOK P o s x :=
  ⟨fun hh D w ρ ho => hh D w ρ ((opsR_put h).2 ho), fun hh D w ρ ho => hh D w ρ ((opsR_put h).1 ho)⟩
theorem ReadOK.put {P : Program} {ops : Array Oper} {o : Oper} {s : FS} {d : Option Tmp} {x u : AV} (h : ∀ t, d = some t → t ∉ o.looksAt ops) : ReadOK P o (s.put d u) x ↔ ReadOK P o s x := by
  unfold ReadOK
  simp only [opsR_put h, bx_put]
theorem MonoOK.put {P : Program} {ops : Array Oper} {o : Oper} {s : FS} {d : Option Tmp} {u : AV} {Out : AV → Option (Nat × Bx) → Prop} (h : ∀ t, d = some t → t ∉ o.looksAt ops) : MonoOK P o (s.put d u) Out ↔ MonoOK P o s Out := by
  unfold MonoOK
  simp only [opsR_put h, bx_put]
theorem MutF.put {P : Program} {ops : Array Oper} {o : Oper} {s : FS} {d : Option Tmp} {u : AV} {id : Nat} {Out : AV → Bx → Prop} (h : ∀ t, d = some t → t ∉ o.looksAt ops) : MutF P o (s.put d u) id Out ↔ MutF P o s id Out := by
  unfold MutF
  simp only [opsR_put h, bx_put]
theorem Yld.put {P : Program} {ops : Array Oper} {o : Oper} {s : FS} {d : Option Tmp} {x u : AV} (h : ∀ t, d = some t → t ∉ o.looksAt ops) (hy : Yld P ops o s x) : Yld P ops o (s.put d u) x := by
  unfold Yld
  rw [gd_put h, PureOK.put h, ReadOK.put h]
  exact hy
theorem Yld.more {P : Program} {ops : Array Oper} {o : Oper} {s s' : FS} {x : AV} (ht : s'.tm = s.tm) (hb : isLd o.op = true → ∀ id y, s.bx id = some y → s'.bx id = some y) (hy : Yld P ops o s x) : Yld P ops o s' x := by
  unfold Yld at hy ⊢
  rw [gd_tm ht]
  rcases hy with h | ⟨h1, h | ⟨h2, h⟩⟩
  · exact .inl h
  · exact .inr ⟨h1, .inl fun D w ρ ho => h D w ρ ((opsR_tm ht).1 ho)⟩
  · exact .inr ⟨h1, .inr ⟨h2, fun D w ρ ho hbx => h D w ρ ((opsR_tm ht).1 ho) (fun id y hy => hbx id y (hb h2 id y hy))⟩⟩
theorem step_put {P : Program} {ops : Array Oper} {j : Nat} {oi oj : Oper} {x : AV} {s : FS} {K : FS → Prop} (hj : ops[j]? = some oj) (hap : oi.apart ops oj = true) (hm : isLd oi.op = true → isMut oj.op = false)
    (hy : Yld P ops oi s x) (h : StepR P ops j (s.put oi.dst x) K) : StepR P ops j s (fun s' => Yld P ops oi s' x ∧ K (s'.put oi.dst x)) := by
  obtain ⟨h1, h2, h3⟩ := Oper.apart_spec hap
  obtain ⟨o, ho, h⟩ := h
  obtain rfl : oj = o := Option.some.inj (hj.symm.trans ho)
  refine ⟨oj, hj, ?_⟩
  rw [gd_put h1] at h
  rcases h with ⟨g, hk⟩ | ⟨g, h | ⟨g2, Out, g3, g4⟩ | ⟨g2, g3, id, Out, g4, g5⟩⟩
  · refine .inl ⟨g, hy.put h3, ?_⟩
    rw [put_comm _ _ _ _ _ h2] at hk
    exact hk
  · obtain ⟨xj, hx, hk⟩ := h
    rw [PureOK.put h1, ReadOK.put h1] at hx
    refine .inr ⟨g, .inl ⟨xj, hx, hy.put h3, ?_⟩⟩
    rw [put_comm _ _ _ _ _ h2] at hk
    exact hk
  · rw [MonoOK.put h1] at g3
    refine .inr ⟨g, .inr (.inl ⟨g2, Out, g3, fun y nb hO => ?_⟩)⟩
    obtain ⟨hf, hk⟩ := g4 y nb hO
    rw [bx_put] at hf
    refine ⟨hf, ?_, ?_⟩
    · refine Yld.more (s := s.put oj.dst y) ?_ ?_ (hy.put h3)
      · rcases nb with _ | ⟨id, z⟩ <;> rfl
      · intro _ id z hz
        rcases nb with _ | ⟨id', z'⟩
        · exact hz
        · have := hf id' z' rfl
          simp only [FS.addB, FS.setB]
          split
          · rename_i e
            rw [bx_put, e, this] at hz
            cases hz
          · exact hz
    · rw [put_addB, ← put_comm _ _ _ _ _ h2]
      exact hk
  · rw [MutF.put h1] at g4
    refine .inr ⟨g, .inr (.inr ⟨g2, g3, id, Out, g4, fun y z hO => ⟨?_, ?_⟩⟩)⟩
    · refine Yld.more (s := s.put oj.dst y) rfl ?_ (hy.put h3)
      intro hl
      rw [hm hl] at g3
      cases g3
    · rw [put_setB, ← put_comm _ _ _ _ _ h2]
      exact g5 y z hO
def blkA (ops : Array Oper) (l : Array Bool) (i : Nat) : Nat → Nat → Bool
  | 0, _ => false
  | n + 1, j =>
    match ops[j]? with
    | some oj => oj.after.any fun e => Region.binds .any e && (e.on == i || (!l.getD e.on true && blkA ops l i n e.on))
    | none => false
theorem done_not {l : Array Bool} {k : Nat} (h : l.getD k false = true) : l.getD k true = true := by
  rcases Nat.lt_or_ge k l.size with h' | h'
  · simp [h'] at h ⊢; exact h
  · simp [Array.getElem?_eq_none h'] at h
theorem blkA_ready {ops : Array Oper} {l : Array Bool} {i j : Nat} (hi : l.getD i true = false) (hj : j ∈ Region.ready .any ops l) : ∀ n, blkA ops l i n j = false
  | 0 => rfl
  | n + 1 => by
    obtain ⟨_, o, ho, hall⟩ := mem_ready.1 hj
    unfold blkA
    rw [ho]
    refine Bool.eq_false_iff.2 fun h => ?_
    obtain ⟨e, he, hb⟩ := Array.any_eq_true'.1 h
    simp only [Bool.and_eq_true, Bool.or_eq_true, beq_iff_eq, Bool.not_eq_true'] at hb
    have hd := done_not (hall e he hb.1)
    rcases hb.2 with h2 | h2
    · rw [h2, hi] at hd; cases hd
    · rw [h2.1] at hd; cases hd
theorem blkA_more {ops : Array Oper} {l : Array Bool} {i k : Nat} (hi : l.getD i true = false) (hk : k ∈ Region.ready .any ops l) : ∀ n j, blkA ops l i n j = true → blkA ops (l.setIfInBounds k true) i n j = true
  | 0, _, h => by cases h
  | n + 1, j, h => by
    unfold blkA at h ⊢
    split at h
    · rename_i o ho
      obtain ⟨e, he, hb⟩ := Array.any_eq_true'.1 h
      refine Array.any_eq_true'.2 ⟨e, he, ?_⟩
      simp only [Bool.and_eq_true, Bool.or_eq_true, beq_iff_eq, Bool.not_eq_true'] at hb ⊢
      refine ⟨hb.1, hb.2.imp (fun h => h) fun h2 => ⟨?_, blkA_more hi hk n e.on h2.2⟩⟩
      have hne : k ≠ e.on := fun hh => by
        have := blkA_ready hi hk n
        rw [hh, h2.2] at this
        cases this
      rw [getD_set_ne true hne]
      exact h2.1
    · cases h
theorem aAny_first {P : Program} {ops : Array Oper} {K : FS → Prop} {i : Nat} {oi : Oper} {x : AV} (hi : ops[i]? = some oi) :
    ∀ (fuel : Nat) (l : Array Bool) (s : FS),
      (∀ j oj, ops[j]? = some oj → j ≠ i → l.getD j true = false → (∀ n, blkA ops l i n j = false) → oi.apart ops oj = true ∧ (isLd oi.op = true → isMut oj.op = false)) →
      i ∈ Region.ready .any ops l → Yld P ops oi s x → aAny P ops K fuel (l.setIfInBounds i true) (s.put oi.dst x) → aAny P ops K (fuel + 1) l s := by
  have own : ∀ (s : FS) (K' : FS → Prop), Yld P ops oi s x → K' (s.put oi.dst x) → StepR P ops i s K' := fun s K' hy hk => by
    refine ⟨oi, hi, ?_⟩
    rcases hy with ⟨h, rfl⟩ | ⟨h1, h2⟩
    · exact .inl ⟨h, hk⟩
    · exact .inr ⟨h1, .inl ⟨x, h2, hk⟩⟩
  intro fuel
  induction fuel with
  | zero =>
    intro l s _ hr hy H
    refine ⟨fun h => (by rw [h] at hr; cases hr), fun j hj => ?_⟩
    by_cases hji : j = i
    · subst hji; exact own s _ hy H
    · have := ready_mono hj hji
      rw [H.1] at this
      cases this
  | succ fuel ih =>
    intro l s hfree hr hy H
    refine ⟨fun h => (by rw [h] at hr; cases hr), fun j hj => ?_⟩
    by_cases hji : j = i
    · subst hji; exact own s _ hy H
    · have h1 := H.2 j (ready_mono hj hji)
      obtain ⟨hjun, oj, hoj, hall⟩ := mem_ready.1 hj
      have hipe := (mem_ready.1 hr).1
      have hnot : ∀ n, blkA ops l i n j = false := blkA_ready hipe hj
      obtain ⟨hap, hm⟩ := hfree j oj hoj hji hjun hnot
      have hfree' : ∀ k ok, ops[k]? = some ok → k ≠ i → (l.setIfInBounds j true).getD k true = false →
          (∀ n, blkA ops (l.setIfInBounds j true) i n k = false) → oi.apart ops ok = true ∧ (isLd oi.op = true → isMut ok.op = false) := fun k ok hk hki hun hno => by
        refine hfree k ok hk hki ?_ (fun n => Bool.eq_false_iff.2 fun h => by have := blkA_more hipe hj n k h; rw [hno n] at this; cases this)
        by_cases hjk : j = k
        · subst hjk; exact hjun
        · rw [getD_set_ne true hjk] at hun; exact hun
      refine (step_put hoj hap hm hy h1).mono (fun s' h3 => ih (l.setIfInBounds j true) s' hfree' (ready_mono hr (Ne.symm hji)) h3.1 ?_)
      rw [Array.setIfInBounds_comm _ _ hji]
      exact h3.2
def SeqR (P : Program) (ops : Array Oper) (K : FS → Prop) : List Nat → FS → Prop
  | [], s => K s
  | i :: r, s => StepR P ops i s (SeqR P ops K r)
def freeA (P : Program) (ops : Array Oper) (l : Array Bool) (i : Nat) : Bool :=
  match ops[i]? with
  | none => false
  | some oi => isRd P oi.op && (List.range ops.size).all fun j => j == i || l.getD j true || match ops[j]? with
      | some oj => blkA ops l i ops.size j || (oi.apart ops oj && (!isLd oi.op || !isMut oj.op))
      | none => true
def okOrd (P : Program) (ops : Array Oper) : List Nat → Array Bool → Bool
  | [], l => (Region.ready .any ops l).isEmpty
  | i :: r, l => ((freeA P ops l i && (Region.ready .any ops l).contains i) || Region.ready .any ops l == [i]) && okOrd P ops r (l.setIfInBounds i true)
theorem okOrd_any {P : Program} {ops : Array Oper} {K : FS → Prop} : ∀ (r : List Nat) (l : Array Bool) (s : FS), okOrd P ops r l = true → SeqR P ops K r s → aAny P ops K r.length l s
  | [], l, s, h, hs => ⟨by simpa [okOrd] using h, hs⟩
  | i :: r, l, s, h, hs => by
    simp only [okOrd, Bool.and_eq_true, Bool.or_eq_true] at h
    obtain ⟨h1, h2⟩ := h
    rcases h1 with ⟨hf, hr⟩ | hr
    · unfold freeA at hf
      split at hf
      · cases hf
      · rename_i oi hi
        simp only [Bool.and_eq_true, List.all_eq_true, List.mem_range] at hf
        obtain ⟨hrd, hf⟩ := hf
        obtain ⟨o, ho, hst⟩ := hs
        obtain rfl : oi = o := Option.some.inj (hi.symm.trans ho)
        have hfree : ∀ j oj, ops[j]? = some oj → j ≠ i → l.getD j true = false → (∀ n, blkA ops l i n j = false) → oi.apart ops oj = true ∧ (isLd oi.op = true → isMut oj.op = false) := by
          intro j oj hj hne hun hno
          have h3 := hf j (Array.getElem?_eq_some_iff.1 hj).1
          simp only [hj, Bool.or_eq_true, beq_iff_eq, hne, false_or, hun, Bool.false_eq_true, Bool.and_eq_true, Bool.not_eq_true'] at h3
          rcases h3 with h3 | ⟨h3, h4⟩
          · rw [hno ops.size] at h3; cases h3
          · refine ⟨h3, fun hl => ?_⟩
            rcases h4 with h4 | h4
            · rw [hl] at h4; cases h4
            · exact h4
        have key : ∃ x, Yld P ops oi s x ∧ SeqR P ops K r (s.put oi.dst x) := by
          rcases hst with ⟨g, hk⟩ | ⟨g, ⟨x, hx, hk⟩ | ⟨g2, _⟩ | ⟨g2, _⟩⟩
          · exact ⟨.val undef, .inl ⟨g, rfl⟩, hk⟩
          · exact ⟨x, .inr ⟨g, hx⟩, hk⟩
          · rw [hrd] at g2; cases g2
          · rw [hrd] at g2; cases g2
        obtain ⟨x, hy, hk⟩ := key
        exact aAny_first hi r.length l s hfree (by simpa using hr) hy (okOrd_any r _ _ h2 hk)
    · have hr' : Region.ready .any ops l = [i] := by simpa using hr
      refine ⟨fun h => (by rw [h] at hr'; cases hr'), fun j hj => ?_⟩
      rw [hr'] at hj
      obtain rfl : j = i := by simpa using hj
      exact hs.mono fun s' h' => okOrd_any r _ s' h2 h'
end Copyhold
