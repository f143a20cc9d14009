/- Steps of a region over abstract states: new boxes, calls, elements of slices; states that say less; over any program. No conditions beyond each law's own. -/
import Derived.Test.YtpdedjbkfcaebaaAbs7
set_option linter.unusedVariables false
namespace Copyhold
open Go Go.RowKit
def opAt (ops : Array Oper) (s : LS) (i : Nat) : Option Oper :=
  match ops[i]? with
  | some o =>
    match gd ops s.fs o with
    | some true => some o
    | _ => none
  | none => none
theorem opAt_ok {ops : Array Oper} {s : LS} {i : Nat} {o : Oper} (h : opAt ops s i = some o) : ops[i]? = some o ∧ gd ops s.fs o = some true := by
  unfold opAt at h
  split at h
  · rename_i o' ho
    split at h
    · rename_i hg
      obtain rfl := Option.some.inj h
      exact ⟨ho, hg⟩
    · cases h
  · cases h
def newO (P : Program) (ops : Array Oper) (s : LS) (i : Nat) : Option (Nat → LS) :=
  match opAt ops s i with
  | some o =>
    match o.dst, o.op with
    | some d, .alloc e =>
      match zeroA P e, bget s.bx d with
      | some cs, none => some fun b => (s.put (some d) (.ptr d b 0)).setB d (.box b e cs)
      | _, _ => none
    | some d, .box e x =>
      match cellsA (s.ev x), bget s.bx d with
      | some cs, none => some fun b => (s.put (some d) (.ptr d b 0)).setB d (.box b e cs)
      | _, _ => none
    | _, _ => none
  | none => none
theorem boxR_new {D : Nat → Prop} {w : World} {e : TypeId} {cs : List AV} {vs : Array Value} (h : RepC D w cs vs) : BoxR D (w.alloc (.cells vs e)) (.box w.heap.size e cs) :=
  ⟨vs, TBox.new w e vs, h.1, h.2.1, fun j a v ha hv => (h.2.2 j a v ha hv).frame (fun _ h => h) (by simp) (fun b hd hl => Below.heap_alloc w _ b hl)⟩
theorem mono_new {P : Program} {o : Oper} {s : LS} {d : Nat} {e : TypeId} {cs : List AV} (hd : o.dst = some d)
    (h : ∀ (D : Nat → Prop) (w : World) (ρ : Operand → Value), opsR D w s.fs ρ o → ∃ vs, RepC D w cs vs ∧ (execOp ρ o).run P w = .ok (.value (.pointer (some ⟨w.heap.size, 0, none⟩))) (w.alloc (.cells vs e))) :
    MonoOK P o s.fs (fun x nb => ∃ b, x = .ptr d b 0 ∧ nb = some (d, .box b e cs)) := by
  intro D w a Q K hD hops hbx hcont
  obtain ⟨vs, h1, h2⟩ := h D w a.eval hops
  unfold Oper.wp
  rw [h2, Oper.upon_value]
  have hb : Below w.heap.size w (w.alloc (.cells vs e)) := (Below.refl _ _).alloc (Nat.le_refl _) _
  refine hcont _ _ _ _ D ⟨w.heap.size, rfl, rfl⟩ hb (fun _ h => h) (fun b h => ⟨Nat.lt_of_lt_of_le (hD b h) hb.size, .inl h⟩) (.ptr _ _ _) (fun id y hy => ?_)
  obtain ⟨rfl, rfl⟩ := by simpa using hy
  refine ⟨fun g hg => ?_, boxR_new h1⟩
  obtain rfl := Option.some.inj hg
  exact ⟨Nat.le_refl _, fun hd => by have := hD _ hd; omega⟩
theorem seq_new {P : Program} {ops : Array Oper} {K : FS → Prop} {r : List Nat} {i : Nat} {s : LS} {f : Nat → LS} (h : newO P ops s i = some f) (k : ∀ b, SeqR P ops K r (f b).fs) : SeqR P ops K (i :: r) s.fs := by
  unfold newO at h
  split at h
  · rename_i o ho
    obtain ⟨hi, hg⟩ := opAt_ok ho
    refine ⟨o, hi, .inr ⟨hg, .inr (.inl ?_)⟩⟩
    split at h
    · rename_i d e hd hop
      split at h
      · rename_i cs hz hn
        obtain rfl := Option.some.inj h
        refine ⟨by rw [hop]; rfl, _, mono_new (e := e) (cs := cs) hd (fun D w ρ hops => ?_), ?_⟩
        · obtain ⟨it, z, h1, h2, h3⟩ := zeroA_ok (D := D) (w := w) hz
          exact ⟨z.cells, h3, by simp [execOp, hop, Instr.alloc, zeroValue, typeInfo, h1, h2, newVar, newRow]⟩
        · rintro x nb ⟨b, rfl, rfl⟩
          refine ⟨fun id y hy => ?_, ?_⟩
          · obtain ⟨rfl, rfl⟩ := by simpa using hy
            exact hn
          · have := k b
            rw [← LS.fs_setB, ← LS.fs_put] at this
            rw [hd]
            exact this
      · cases h
    · rename_i d e x hd hop
      split at h
      · rename_i cs hz hn
        obtain rfl := Option.some.inj h
        refine ⟨by rw [hop]; rfl, _, mono_new (e := e) (cs := cs) hd (fun D w ρ hops => ?_), ?_⟩
        · have hv := arg_of hops x (by simp [hop, Op.operands])
          exact ⟨_, cellsA_ok hz hv, by simp [execOp, hop, Instr.box, newVar, newRow]⟩
        · rintro y nb ⟨b, rfl, rfl⟩
          refine ⟨fun id y hy => ?_, ?_⟩
          · obtain ⟨rfl, rfl⟩ := by simpa using hy
            exact hn
          · have := k b
            rw [← LS.fs_setB, ← LS.fs_put] at this
            rw [hd]
            exact this
      · cases h
    · cases h
  · cases h
def SubAll : List AV → List AV → Prop
  | [], [] => True
  | x :: xs, y :: ys => Sub x y ∧ SubAll xs ys
  | _, _ => False
theorem SubAll.ok : ∀ {xs ys : List AV}, SubAll xs ys → xs.length = ys.length ∧ ∀ (j : Nat) (x y : AV), xs[j]? = some x → ys[j]? = some y → Sub x y
  | [], [], _ => ⟨rfl, fun j x y h => by simp at h⟩
  | x :: xs, y :: ys, h => by
    obtain ⟨h1, h2⟩ := h
    obtain ⟨h3, h4⟩ := SubAll.ok h2
    refine ⟨by simp [h3], fun j a b ha hb => ?_⟩
    cases j with
    | zero => simp at ha hb; subst ha hb; exact h1
    | succ j => exact h4 j a b (by simpa using ha) (by simpa using hb)
  | [], _ :: _, h => h.elim
  | _ :: _, [], h => h.elim
def callO (ops : Array Oper) (s : LS) (i : Nat) : Option (FuncId × List AV × Option Tmp) :=
  match opAt ops s i with
  | some o =>
    match o.op with
    | .call c =>
      match c.callee with
      | .value f =>
        match s.ev f with
        | .val (.func (.func g) ⟨[]⟩ ⟨[]⟩) => some (g, c.args.toList.map s.ev, o.dst)
        | .clo g caps => some (g, c.args.toList.map s.ev ++ caps, o.dst)
        | _ => none
      | _ => none
    | _ => none
  | none => none
theorem call_mono {P : Program} {s : LS} {o : Oper} {c : Call} {fo : Operand} {g : FuncId} {args args' : List AV} {r : AV} (hop : o.op = .call c) (hc : c.callee = .value fo)
    (heg : ∀ vs w, (callFunc g vs).run P w = .ok (.enter g vs) w) (hsub : SubAll args args') (hsp : FSpec P g args' r)
    (hrun : ∀ (D : Nat → Prop) (w : World) (ρ : Operand → Value), opsR D w s.fs ρ o → ∃ vs, (execOp ρ o).run P w = (callFunc g vs).run P w ∧ RaAll D w args vs) :
    MonoOK P o s.fs (fun x nb => x = r ∧ nb = none) := by
  intro D w a Q K' hD hops hbx hcont
  obtain ⟨hl, hsa⟩ := hsub.ok
  obtain ⟨vs, h1, h2⟩ := hrun D w a.eval hops
  have hra : RaAll D w args' vs := by
    refine ⟨by rw [← hl]; exact h2.1, fun j x v hx hv => ?_⟩
    have hj : j < args.length := by have := (List.getElem?_eq_some_iff.1 hx).1; omega
    exact hsa j args[j] x (List.getElem?_eq_getElem hj) hx D w v (h2.2 j args[j] v (List.getElem?_eq_getElem hj) hv)
  unfold Oper.wp
  rw [h1, heg, Oper.upon_enter]
  refine (hsp D w _ hD hra).mono ?_
  rintro e w' ⟨v, D', rfl, h1, h2, h3, h4⟩
  exact hcont v w' r none D' ⟨rfl, rfl⟩ h1 h2 h3 h4 (fun id y h => by cases h)
theorem args_ra {D : Nat → Prop} {w : World} {s : LS} {ρ : Operand → Value} {o : Oper} {c : Call} (hop : o.op = .call c) (hops : opsR D w s.fs ρ o) : RaAll D w (c.args.toList.map s.ev) (c.args.map ρ) := by
  refine ⟨by simp, fun j x v hx hv => ?_⟩
  simp only [Array.getElem?_map] at hv
  cases hq : c.args[j]? with
  | none => rw [hq] at hv; cases hv
  | some y =>
    rw [hq] at hv
    obtain rfl := Option.some.inj hv
    simp only [List.getElem?_map, Array.getElem?_toList, hq, Option.map_some] at hx
    obtain rfl := Option.some.inj hx
    refine arg_of hops y ?_
    have := Array.mem_of_getElem? hq
    simp [hop, Op.operands, Call.operands, this]
theorem seq_call {P : Program} {ops : Array Oper} {K : FS → Prop} {rest : List Nat} {i : Nat} {s s' : LS} {f : FuncId} {args args' : List AV} {d : Option Tmp} {r : AV} (h : callO ops s i = some (f, args, d))
    (heg : ∀ vs w, (callFunc f vs).run P w = .ok (.enter f vs) w) (hsub : SubAll args args') (hsp : FSpec P f args' r) (hs : s.put d r = s') (k : SeqR P ops K rest s'.fs) : SeqR P ops K (i :: rest) s.fs := by
  subst hs
  unfold callO at h
  split at h
  · rename_i o ho
    obtain ⟨hi, hg⟩ := opAt_ok ho
    split at h
    · rename_i c hop
      split at h
      · rename_i fo hc
        have hrd : isRd P o.op = false := by
          obtain ⟨callee, cargs, cts⟩ := c
          simp only at hc
          subst hc
          rw [hop]; rfl
        split at h
        · rename_i g hf
          simp only [Option.some.injEq, Prod.mk.injEq] at h
          obtain ⟨rfl, rfl, rfl⟩ := h
          refine ⟨o, hi, .inr ⟨hg, .inr (.inl ⟨hrd, _, call_mono hop hc heg hsub hsp (fun D w ρ hops => ⟨c.args.map ρ, ?_, args_ra hop hops⟩), ?_⟩)⟩⟩
          · have hvf := arg_of hops fo (by simp [hop, Op.operands, Call.operands, hc])
            rw [hf] at hvf
            generalize hfv : ρ fo = vf at hvf
            cases hvf
            simp [execOp, hop, resolve, hc, hfv, Deferred.ofValue, invoke]
          · rintro x nb ⟨rfl, rfl⟩
            refine ⟨fun id y h => (by cases h), ?_⟩
            simp only [FS.addB]
            rw [LS.fs_put]
            exact k
        · rename_i g caps hf
          simp only [Option.some.injEq, Prod.mk.injEq] at h
          obtain ⟨rfl, rfl, rfl⟩ := h
          have hmono : ∀ (D : Nat → Prop) (w : World) (ρ : Operand → Value), opsR D w s.fs ρ o → ∃ vs, (execOp ρ o).run P w = (callFunc g vs).run P w ∧ RaAll D w (c.args.toList.map s.ev ++ caps) vs := fun D w ρ hops => by
            have hvf := arg_of hops fo (by simp [hop, Op.operands, Call.operands, hc])
            rw [hf] at hvf
            generalize hfv : ρ fo = vf at hvf
            cases hvf with
            | clo g caps vs h1 h2 =>
              obtain ⟨a1, a2⟩ := args_ra hop hops
              refine ⟨c.args.map ρ ++ vs, by simp [execOp, hop, resolve, hc, hfv, Deferred.ofValue, invoke], by simp; omega, fun j x v hx hv => ?_⟩
              by_cases hj : j < (c.args.map ρ).size
              · rw [Array.getElem?_append_left hj] at hv
                rw [List.getElem?_append_left (by omega)] at hx
                exact a2 j x v hx hv
              · rw [Array.getElem?_append_right (by omega)] at hv
                rw [List.getElem?_append_right (by omega), a1] at hx
                exact h2 _ x v hx hv
          refine ⟨o, hi, .inr ⟨hg, .inr (.inl ⟨hrd, _, call_mono hop hc heg hsub hsp hmono, ?_⟩)⟩⟩
          rintro x nb ⟨rfl, rfl⟩
          refine ⟨fun id y h => (by cases h), ?_⟩
          simp only [FS.addB]
          rw [LS.fs_put]
          exact k
        · cases h
      · cases h
    · cases h
  · cases h
def idxO (P : Program) (ops : Array Oper) (s : LS) (i : Nat) : Option (List (List AV) × Int × Option Tmp) :=
  match opAt ops s i with
  | some o =>
    match o.op with
    | .indexAddr t x n =>
      match elemP P t, s.ev x, s.ev n with
      | some e, .sl k _ xs, .val (.int .i64 m) =>
        match szP P e with
        | some k' => bif Nat.beq k k' then some (xs, m, o.dst) else none
        | none => none
      | _, _, _ => none
    | _ => none
  | none => none
theorem seq_idx {P : Program} {ops : Array Oper} {K : FS → Prop} {rest : List Nat} {i : Nat} {s s' : LS} {xs : List (List AV)} {m : Int} {d : Option Tmp} {e : List AV} (j : Nat) (h : idxO P ops s i = some (xs, m, d))
    (hm : m = (j : Int)) (he : xs[j]? = some e) (hs : s.put d (.dptr e) = s') (k : SeqR P ops K rest s'.fs) : SeqR P ops K (i :: rest) s.fs := by
  subst hs
  unfold idxO at h
  split at h
  · rename_i o ho
    obtain ⟨hi, hg⟩ := opAt_ok ho
    split at h
    · rename_i t x n hop
      split at h
      · rename_i el kk tt xs' m' hel hx hn
        split at h
        · rename_i k' hk'
          cases hb : Nat.beq kk k' with
          | false => rw [hb] at h; cases h
          | true =>
            rw [hb] at h
            obtain ⟨rfl, rfl, rfl⟩ := by simpa using h
            obtain rfl := Nat.eq_of_beq_eq_true hb
            subst hm
            refine ⟨o, hi, .inr ⟨hg, .inl ⟨.dptr e, .inl fun D w ρ hops => ?_, by rw [LS.fs_put]; exact k⟩⟩⟩
            have hvx := arg_of hops x (by simp [hop, Op.operands])
            have hvn := arg_of hops n (by simp [hop, Op.operands])
            rw [hx] at hvx
            rw [hn] at hvn
            generalize hxv : ρ x = vx at hvx
            generalize hnv : ρ n = vn at hvn
            cases hvn
            cases hvx with
            | sl k t xs A c b off vs h1 h2 h3 h4 h5 h6 =>
              have hj : j < xs'.length := (List.getElem?_eq_some_iff.1 he).1
              obtain ⟨rfl, hDb, hb⟩ := h3 (by omega)
              refine ⟨.pointer (some ⟨b, off + j * kk, none⟩), ?_, .dptr e b _ (fun q => vs j q) hDb hb (fun q y hy => ?_) (fun q y hy => h6 j e q y he hy)⟩
              · have h0 : (0 : Int) ≤ j ∧ (j : Int) < xs'.length := by omega
                simp [execOp, hop, hxv, hnv, Instr.indexAt, asIntOf, run_underlying (elemP_u hel), szP_run hk', h0, hj, add_plain']
              · have := h5 j e q y he hy
                rw [Nat.add_assoc]
                exact this
        · cases h
      · cases h
    · cases h
  · cases h
def leT (s : LS) : List (Nat × AV) → Prop
  | [] => True
  | (t, x) :: r => Sub (lget s.tm t) x ∧ leT s r
def leB (s : LS) : List (Nat × Bx) → Prop
  | [] => True
  | (id, y) :: r => (∃ z, bget s.bx id = some z ∧ SubB z y) ∧ leB s r
theorem leT_ok {s : LS} : ∀ {l : List (Nat × AV)}, leT s l → ∀ t, Sub (lget s.tm t) (lget l t)
  | [], _, t => Sub.any _
  | (k, x) :: r, h, t => by
    simp only [lget]
    cases hb : Nat.beq k t with
    | false => exact leT_ok h.2 t
    | true =>
      obtain rfl := Nat.eq_of_beq_eq_true hb
      exact h.1
theorem leB_ok {s : LS} : ∀ {l : List (Nat × Bx)}, leB s l → ∀ id y, bget l id = some y → ∃ z, bget s.bx id = some z ∧ SubB z y
  | [], _, id, y, h => by cases h
  | (k, x) :: r, h, id, y, hy => by
    simp only [bget] at hy
    cases hb : Nat.beq k id with
    | false =>
      rw [hb] at hy
      exact leB_ok h.2 id y hy
    | true =>
      rw [hb] at hy
      obtain rfl := Nat.eq_of_beq_eq_true hb
      obtain rfl := Option.some.inj hy
      exact h.1
theorem LS.le {s s' : LS} (h1 : leT s s'.tm) (h2 : leB s s'.bx) : s.fs.le' s'.fs := ⟨leT_ok h1, leB_ok h2⟩
theorem awp_less {c : Cx} {P : Program} {Q : Exit → FS → Prop} {code : Code} {s : LS} (s' : LS) (h1 : leT s s'.tm) (h2 : leB s s'.bx) (h : AWp c P code Q s'.fs) : AWp c P code Q s.fs := AWp.weaken (LS.le h1 h2) h
def Fin (P : Program) (F : Func) (r : AV) (e : Exit) (s : FS) : Prop := (e = .normal ∨ e = .ret) ∧ DoneR P F r s
theorem fin_ret {P : Program} {F : Func} {r : AV} {s : FS} (h : DoneR P F r s) : Fin P F r .ret s := ⟨.inr rfl, h⟩
theorem fin_normal {P : Program} {F : Func} {r : AV} {s : FS} (h : DoneR P F r s) : Fin P F r .normal s := ⟨.inl rfl, h⟩
theorem spec_enter {P : Program} {f : FuncId} {F : Func} {code : Code} {args : List AV} {r : AV} (s : LS) (hf : P.funcs[f]? = some F) (hb : F.body = some code) (hsz : (decide (args.length ≤ F.ntmps)) = true)
    (hn : (F.results.toList.all fun rv => decide ((match rv with | .tmp t => t | .cell t _ => t) < F.ntmps)) = true) (hs : s.bx = []) (ht : ∀ t, lget s.tm t = args.getD t .any)
    (h : ∀ c : Cx, c.n = F.ntmps → AWp c P code (Fin P F r) s.fs) : FSpec P f args r := by
  refine spec_of hf hb (of_decide_eq_true hsz) hn fun c hc => ?_
  have e : s.fs = ⟨fun t => args.getD t .any, fun _ => none⟩ := by
    unfold LS.fs
    rw [hs]
    simp only [FS.mk.injEq]
    exact ⟨funext ht, funext fun _ => rfl⟩
  rw [← e]
  exact h c hc
theorem awp_if {c : Cx} {P : Program} {Q : Exit → FS → Prop} {s : LS} {x y : Code} {t : Nat} {b : Bool} (v : Bool) (hn : t < c.n) (hs : lget s.tm t = .val (.bool b)) (hb : b = v) (h : AWp c P (if v then x else y) Q s.fs) : AWp c P (.cond (.tmp t) x y) Q s.fs :=
  awp_cond (b := v) (fun t' e => by cases e; exact hn) (by show lget s.tm t = _; rw [hs, hb]) h
theorem seq_bool {P : Program} {ops : Array Oper} {K : FS → Prop} {r : List Nat} {s s' : LS} (t : Nat) {b v : Bool} (hb : b = v) (hs : lget s.tm t = .val (.bool b)) (he : s.put (some t) (.val (.bool v)) = s') (k : SeqR P ops K r s'.fs) : SeqR P ops K r s.fs := by
  subst he hb
  have : (s.put (some t) (.val (.bool b))).fs = s.fs := by
    rw [← LS.fs_put]
    simp only [FS.put, LS.fs, FS.mk.injEq, and_true]
    funext u
    split
    · rename_i e
      rw [e, hs]
    · rfl
  rw [← this]
  exact k
theorem seq_val {P : Program} {ops : Array Oper} {K : FS → Prop} {r : List Nat} {s s' : LS} (t : Nat) {x y : AV} (h : x = y) (hs : lget s.tm t = x) (he : s.put (some t) y = s') (k : SeqR P ops K r s'.fs) : SeqR P ops K r s.fs := by
  subst he h
  have : (s.put (some t) x).fs = s.fs := by
    rw [← LS.fs_put]
    simp only [FS.put, LS.fs, FS.mk.injEq, and_true]
    funext u
    split
    · rename_i e
      rw [e, hs]
    · rfl
  rw [← this]
  exact k
theorem awp_bool {c : Cx} {P : Program} {Q : Exit → FS → Prop} {code : Code} {s s' : LS} (t : Nat) {b v : Bool} (hb : b = v) (hs : lget s.tm t = .val (.bool b)) (he : s.put (some t) (.val (.bool v)) = s') (k : AWp c P code Q s'.fs) : AWp c P code Q s.fs := by
  subst he hb
  have : (s.put (some t) (.val (.bool b))).fs = s.fs := by
    rw [← LS.fs_put]
    simp only [FS.put, LS.fs, FS.mk.injEq, and_true]
    funext u
    split
    · rename_i e
      rw [e, hs]
    · rfl
  rw [← this]
  exact k
theorem Sub.of_eq {x y : AV} (h : x = y) : Sub x y := h ▸ Sub.refl x
theorem rng64 {z : Int} (h1 : -9223372036854775808 ≤ z) (h2 : z ≤ 9223372036854775807) : rng .i64 z := ⟨h1, h2⟩
theorem Sub.aggs {cs ds : List AV} (h : SubAll cs ds) : Sub (.agg cs) (.agg ds) := Sub.agg h.ok.1 h.ok.2
theorem Sub.tups {cs ds : List AV} (h : SubAll cs ds) : Sub (.tup cs) (.tup ds) := fun D w v hv => by
  obtain ⟨hl, hs⟩ := h.ok
  cases hv with
  | tup cs vs h1 h2 =>
    refine .tup ds vs (by omega) (fun j y v hy hv => ?_)
    have hj : j < cs.length := by have := (List.getElem?_eq_some_iff.1 hy).1; omega
    exact hs j cs[j] y (List.getElem?_eq_getElem hj) hy D w v (h2 j cs[j] v (List.getElem?_eq_getElem hj) hv)
theorem awp_rounds {c : Cx} {P : Program} {Q : Exit → FS → Prop} {x : Code} {s : FS} {α : Type} (st : α → LS) (μ : α → Nat) (H : α → Prop) (a0 : α) (h0 : s.le' (st a0).fs) (hH : H a0)
    (round : ∀ a, H a → AWp c P x (thenQ (fun s' => ∃ b, H b ∧ μ b < μ a ∧ s'.le' (st b).fs) Q) (st a).fs) : AWp c P (.loop x) Q s := by
  refine awp_loop (fun n s => ∃ a, H a ∧ μ a = n ∧ s.le' (st a).fs) (n0 := μ a0) ⟨a0, hH, rfl, h0⟩ fun n s ⟨a, ha, hn, hle⟩ => ?_
  refine AWp.weaken hle ((round a ha).mono fun e s' q => ?_)
  cases e with
  | normal =>
    obtain ⟨b, hb, hm, hl⟩ := q
    exact ⟨μ b, by omega, b, hb, rfl, hl⟩
  | _ => exact q
theorem SubB.boxs {b : Nat} {T : TypeId} {cs ds : List AV} (h : SubAll cs ds) : SubB (.box b T cs) (.box b T ds) := .box b T cs ds h.ok.1 h.ok.2
theorem some_of {α : Type} {l : List α} {k : Nat} (h : k < l.length) : ∃ x, l[k]? = some x := ⟨_, List.getElem?_eq_getElem h⟩
theorem map_some {α β : Type} {f : α → β} {l : List α} {k : Nat} {x : α} (h : l[k]? = some x) : (l.map f)[k]? = some (f x) := by rw [List.getElem?_map, h]; rfl
abbrev aI (z : Int) : AV := .val (.int .i64 z)
abbrev aS (l : List UInt8) : AV := .val (.string ⟨⟨l⟩⟩)
abbrev aB (b : Bool) : AV := .val (.bool b)
abbrev aN : AV := .val (.slice none 0 0)
theorem beqC {α : Type} [BEq α] [LawfulBEq α] (a b : α) : ((a == b) = true ∧ a = b) ∨ ((a == b) = false ∧ ¬ a = b) := by
  cases h : (a == b)
  · exact .inr ⟨rfl, by simpa using h⟩
  · exact .inl ⟨rfl, by simpa using h⟩
theorem bneC {α : Type} [BEq α] [LawfulBEq α] (a b : α) : ((a != b) = true ∧ ¬ a = b) ∨ ((a != b) = false ∧ a = b) := by
  cases h : (a != b)
  · exact .inr ⟨rfl, by simpa using h⟩
  · exact .inl ⟨rfl, by simpa using h⟩
theorem decC (p : Prop) [Decidable p] : (decide p = true ∧ p) ∨ (decide p = false ∧ ¬ p) := by
  by_cases h : p
  · exact .inl ⟨decide_eq_true h, h⟩
  · exact .inr ⟨decide_eq_false h, h⟩
theorem boolC (b : Bool) : (b = true ∧ b = true) ∨ (b = false ∧ b = false) := by cases b <;> simp
end Copyhold
