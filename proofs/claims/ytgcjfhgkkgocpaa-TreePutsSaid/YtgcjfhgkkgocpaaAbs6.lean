/- What an operation that only looks and computes makes of an abstract state, computed by program, and that it is so. Over any program. No conditions beyond each law's own. -/
import Derived.Test.YtgcjfhgkkgocpaaAbsA
set_option linter.unusedVariables false
namespace Copyhold
open Go Go.RowKit
theorem part_run {D : Nat → Prop} {P : Program} {w : World} {t : TypeId} {cs : List AV} {vs : Array Value} {off : Nat} {x : AV} (h : RepC D w cs vs) (hx : partA P t (cs.drop off) = some x) : ∃ v, (part t vs off).run P w = .ok v w ∧ Ra D w x v := by
  unfold partA at hx
  split at hx
  · rename_i ha
    split at hx
    · rename_i n hn
      cases hb : Nat.ble n (cs.drop off).length with
      | false => rw [hb] at hx; cases hx
      | true =>
        rw [hb] at hx
        obtain rfl := Option.some.inj hx
        have hle := Nat.le_of_ble_eq_true hb
        rw [List.length_drop] at hle
        refine ⟨.agg (vs.extract off (off + n)), by simp [part, isAggP_run ha, szP_run hn], .agg _ _ ?_ (fun j v hv => ?_) (fun j x v hx hv => ?_)⟩
        · have := h.1
          simp
          omega
        · rw [Array.getElem?_extract] at hv
          split at hv
          · exact h.2.1 _ v hv
          · cases hv
        · rw [Array.getElem?_extract] at hv
          rw [List.getElem?_take] at hx
          split at hv
          · split at hx
            · rw [List.getElem?_drop] at hx
              exact h.2.2 _ x v hx hv
            · cases hx
          · cases hv
    · cases hx
  · rename_i ha
    rw [List.head?_eq_getElem?, List.getElem?_drop, Nat.add_zero] at hx
    have hj : off < vs.size := by have := (List.getElem?_eq_some_iff.1 hx).1; have := h.1; omega
    exact ⟨vs[off], by simp [part, isAggP_run ha, hj], h.2.2 off x vs[off] hx (by simp [hj])⟩
  · cases hx
def lenA : AV → TypeDesc → Option AV
  | .sl _ _ xs, .slice _ => some (.val (.int .i64 xs.length))
  | .rw _ _ n, .slice _ => some (.val (.int .i64 n))
  | .val (.slice _ n _), .slice _ => some (.val (.int .i64 n))
  | .val (.string ⟨⟨l⟩⟩), .string => some (.val (.int .i64 l.length))
  | _, _ => none
def evO (P : Program) (s : LS) : Op → Option (List Prop × AV)
  | .move x => some ([], s.ev x)
  | .assign x => some ([], s.ev x)
  | .pick c a b =>
    match s.ev c with
    | .val (.bool true) => some ([], s.ev a)
    | .val (.bool false) => some ([], s.ev b)
    | _ => none
  | .load t a =>
    match s.ev a with
    | .ptr id b off =>
      match bget s.bx id with
      | some (.box b' _ cs) =>
        match partA P t (cs.drop off) with
        | some x => some ([b' = b], x)
        | none => none
      | _ => none
    | .dptr cs =>
      match partA P t cs with
      | some x => some ([], x)
      | none => none
    | _ => none
  | .fieldAddr st x f =>
    match fldP P st f with
    | some (off, _) =>
      match s.ev x with
      | .ptr id b o => some ([], .ptr id b (o + off))
      | .dptr cs => some ([], .dptr (cs.drop off))
      | _ => none
    | none => none
  | .field st x f =>
    match fldP P st f with
    | some (off, ty) =>
      match s.ev x with
      | .agg cs =>
        match partA P ty (cs.drop off) with
        | some x => some ([], x)
        | none => none
      | _ => none
    | none => none
  | .extract x i =>
    match s.ev x with
    | .tup l =>
      match l[i]? with
      | some x => some ([], x)
      | none => none
    | _ => none
  | .binOp op t x y _ => binA P op t (s.ev x) (s.ev y)
  | .unOp .not _ x =>
    match s.ev x with
    | .val (.bool b) => some ([], .val (.bool (!b)))
    | _ => none
  | .convert src dst x =>
    match P.underlying src, P.underlying dst, s.ev x with
    | some _, some (.int k), .val (.int _ n) => some ([rng k n], .val (.int k n))
    | some _, some .string, .val (.string t) => some ([], .val (.string t))
    | _, _, _ => none
  | .build t parts =>
    match buildA P t (parts.toList.map fun p => (p.1, s.ev p.2)) with
    | some x => some ([], x)
    | none => none
  | .nilCheck x =>
    match s.ev x with
    | .ptr id b o => some ([], .ptr id b o)
    | .dptr cs => some ([], .dptr cs)
    | .val (.func (.func f) a b) => some ([], .val (.func (.func f) a b))
    | .clo f caps => some ([], .clo f caps)
    | _ => none
  | .makeFunc fn first caps =>
    match fn, first.toList with
    | .func f, [] => some ([], .clo f (caps.toList.map s.ev))
    | _, _ => none
  | .call c =>
    match c.callee, c.args.toList, c.argTypes.toList with
    | .builtin .len, [x], [t] =>
      match P.underlying t with
      | some d =>
        match lenA (s.ev x) d with
        | some r => some ([], r)
        | none => none
      | none => none
    | _, _, _ => none
  | _ => none
theorem lenA_ok {D : Nat → Prop} {P : Program} {w : World} {x r : AV} {d : TypeDesc} {t ty : TypeId} {v : Value} (h : lenA x d = some r) (hu : P.underlying t = some d) (hv : Ra D w x v) : ∃ u, (Builtin.len_ #[t] ty #[v]).run P w = .ok u w ∧ Ra D w r u := by
  unfold lenA at h
  split at h
  · obtain rfl := Option.some.inj h
    cases hv
    exact ⟨_, by simp [Builtin.len_, run_underlying hu, goInt], .val _⟩
  · obtain rfl := Option.some.inj h
    cases hv
    exact ⟨_, by simp [Builtin.len_, run_underlying hu, goInt], .val _⟩
  · obtain rfl := Option.some.inj h
    cases hv
    exact ⟨_, by simp [Builtin.len_, run_underlying hu, goInt], .val _⟩
  · obtain rfl := Option.some.inj h
    cases hv
    exact ⟨_, by
      simp [Builtin.len_, run_underlying hu, goInt]
      rfl, .val _⟩
  · cases h
theorem evO_ok {P : Program} {s : LS} {o : Oper} {ps : List Prop} {x : AV} (h : evO P s o.op = some (ps, x)) (hp : allP ps) : PureOK P o s.fs x ∨ (isLd o.op = true ∧ ReadOK P o s.fs x) := by
  obtain ⟨dst, op, type, pos, after, guard⟩ := o
  simp only at h
  have arg : ∀ {D : Nat → Prop} {w : World} {ρ : Operand → Value} {o : Oper}, opsR D w s.fs ρ o → ∀ y, y ∈ o.op.operands → Ra D w (s.ev y) (ρ y) := fun ho y hy => by
    have := ho y hy
    rwa [LS.fs_ev] at this
  cases op <;> simp only [evO] at h <;> (try (cases h; done))
  case move y =>
    obtain ⟨rfl, rfl⟩ := by simpa using h
    exact .inl fun D w ρ ho => ⟨_, rfl, arg ho y (by simp [Op.operands])⟩
  case assign y =>
    obtain ⟨rfl, rfl⟩ := by simpa using h
    exact .inl fun D w ρ ho => ⟨_, rfl, arg ho y (by simp [Op.operands])⟩
  case pick c a b =>
    split at h
    · rename_i hc
      obtain ⟨rfl, rfl⟩ := by simpa using h
      refine .inl fun D w ρ ho => ⟨ρ a, ?_, arg ho a (by simp [Op.operands])⟩
      have hv := arg ho c (by simp [Op.operands])
      rw [hc] at hv
      generalize hvv : ρ c = v at hv
      cases hv
      simp [execOp, hvv, asBool]
    · rename_i hc
      obtain ⟨rfl, rfl⟩ := by simpa using h
      refine .inl fun D w ρ ho => ⟨ρ b, ?_, arg ho b (by simp [Op.operands])⟩
      have hv := arg ho c (by simp [Op.operands])
      rw [hc] at hv
      generalize hvv : ρ c = v at hv
      cases hv
      simp [execOp, hvv, asBool]
    · cases h
  case load t a =>
    refine .inr ⟨rfl, fun D w ρ ho hbx => ?_⟩
    have hv := arg ho a (by simp [Op.operands])
    split at h
    · rename_i id b off ha
      rw [ha] at hv
      generalize hvv : ρ a = v at hv
      cases hv
      split at h
      · rename_i b' T cs hy
        split at h
        · rename_i z hz
          obtain ⟨rfl, rfl⟩ := by simpa using h
          have hb : b' = b := hp.1
          subst hb
          have hc := (BoxR.cells (hbx id _ hy)).drop off
          rw [Nat.zero_add] at hc
          obtain ⟨v, h1, h2⟩ := load_part (P := P) hc hz
          exact ⟨v, by simp [execOp, hvv, Instr.loadAt, Instr.sureAddr, h1], h2⟩
        · cases h
      · cases h
    · rename_i cs ha
      rw [ha] at hv
      generalize hvv : ρ a = v at hv
      split at h
      · rename_i z hz
        obtain ⟨rfl, rfl⟩ := by simpa using h
        cases hv with
        | dptr cs b off vs h1 h2 h3 h4 =>
          have hc : CellsAt D w b off cs := fun j x hx => ⟨vs j, (h3 j x hx).1, (h3 j x hx).2, h4 j x hx⟩
          obtain ⟨v, g1, g2⟩ := load_part (P := P) hc hz
          exact ⟨v, by simp [execOp, hvv, Instr.loadAt, Instr.sureAddr, g1], g2⟩
      · cases h
    · cases h
  case fieldAddr st y f =>
    refine .inl fun D w ρ ho => ?_
    have hv := arg ho y (by simp [Op.operands])
    split at h
    · rename_i off ty hf
      unfold fldP at hf
      split at hf
      · rename_i fs hu
        split at hf
        · rename_i fd hfd
          split at hf
          · rename_i n hn
            have hoff : fd.offset = off := by
              have := Option.some.inj hf
              exact (Prod.mk.inj this).1
            subst hoff
            have hrun : ∀ b o, (Instr.fieldAt st (.pointer (some ⟨b, o, none⟩)) f).run P w = .ok (.pointer (some ⟨b, o + fd.offset, none⟩)) w := fun b o => by
              simp [Instr.fieldAt, run_underlying hu, hfd, Instr.sureAddr, fieldPlace, szP_run hn, add_plain']
            split at h
            · rename_i id b o hy
              obtain ⟨rfl, rfl⟩ := by simpa using h
              rw [hy] at hv
              generalize hvv : ρ y = v at hv
              cases hv
              exact ⟨_, by simp [execOp, hvv, hrun], .ptr id b _⟩
            · rename_i cs hy
              obtain ⟨rfl, rfl⟩ := by simpa using h
              rw [hy] at hv
              generalize hvv : ρ y = v at hv
              cases hv with
              | dptr cs b o vs h1 h2 h3 h4 =>
                refine ⟨.pointer (some ⟨b, o + fd.offset, none⟩), by simp [execOp, hvv, hrun], .dptr _ b (o + fd.offset) (fun j => vs (fd.offset + j)) h1 h2 (fun j x hx => ?_) (fun j x hx => ?_)⟩
                · rw [List.getElem?_drop] at hx
                  rw [Nat.add_assoc]
                  exact h3 _ x hx
                · rw [List.getElem?_drop] at hx
                  exact h4 _ x hx
            · cases h
          · cases hf
        · cases hf
      · cases hf
    · cases h
  case field st y f =>
    refine .inl fun D w ρ ho => ?_
    have hv := arg ho y (by simp [Op.operands])
    split at h
    · rename_i off ty hf
      unfold fldP at hf
      split at hf
      · rename_i fs hu
        split at hf
        · rename_i fd hfd
          split at hf
          · rename_i n hn
            have hoff := Prod.mk.inj (Option.some.inj hf)
            obtain ⟨e1, e2⟩ := hoff
            subst e1 e2
            split at h
            · rename_i cs hy
              split at h
              · rename_i z hz
                obtain ⟨rfl, rfl⟩ := by simpa using h
                rw [hy] at hv
                generalize hvv : ρ y = v at hv
                cases hv with
                | agg cs vs h1 h2 h3 =>
                  obtain ⟨v, g1, g2⟩ := part_run (P := P) (D := D) (w := w) ⟨h1.symm, h2, h3⟩ hz
                  exact ⟨v, by simp [execOp, hvv, Instr.field, run_underlying hu, hfd, asAgg, g1], g2⟩
              · cases h
            · cases h
          · cases hf
        · cases hf
      · cases hf
    · cases h
  case extract y i =>
    refine .inl fun D w ρ ho => ?_
    have hv := arg ho y (by simp [Op.operands])
    split at h
    · rename_i l hy
      split at h
      · rename_i z hz
        obtain ⟨rfl, rfl⟩ := by simpa using h
        rw [hy] at hv
        generalize hvv : ρ y = v at hv
        cases hv with
        | tup l vs h1 h2 =>
          have hi : i < vs.size := by have := (List.getElem?_eq_some_iff.1 hz).1; omega
          exact ⟨vs[i], by simp [execOp, hvv, Instr.extract, hi], h2 i z vs[i] hz (by simp [hi])⟩
      · cases h
    · cases h
  case binOp op t y z yt =>
    refine .inl fun D w ρ ho => ?_
    obtain ⟨r, h1, h2⟩ := binA_ok h hp (arg ho y (by simp [Op.operands])) (arg ho z (by simp [Op.operands])) y z
    refine ⟨r, ?_, h2⟩
    simp only [execOp, Sem.run_bind] at h1 ⊢
    simp [h1]
  case unOp op t y =>
    refine .inl fun D w ρ ho => ?_
    have hv := arg ho y (by simp [Op.operands])
    cases op <;> simp only at h <;> (try (cases h; done))
    split at h
    · rename_i b hy
      obtain ⟨rfl, rfl⟩ := by simpa using h
      rw [hy] at hv
      generalize hvv : ρ y = v at hv
      cases hv
      exact ⟨_, by simp [execOp, hvv, Op.unary], .val _⟩
    · cases h
  case convert src dst y =>
    refine .inl fun D w ρ ho => ?_
    have hv := arg ho y (by simp [Op.operands])
    split at h
    · rename_i d k k' n hs hd hy
      obtain ⟨rfl, rfl⟩ := by simpa using h
      rw [hy] at hv
      generalize hvv : ρ y = v at hv
      cases hv
      exact ⟨_, by simp [execOp, hvv, Go.convert, run_underlying hs, run_underlying hd, Conv.intToInt, rng_wrap hp.1], .val _⟩
    · rename_i d t hs hd hy
      obtain ⟨rfl, rfl⟩ := by simpa using h
      rw [hy] at hv
      generalize hvv : ρ y = v at hv
      cases hv
      exact ⟨_, by simp [execOp, hvv, Go.convert, run_underlying hs, run_underlying hd], .val _⟩
    · cases h
  case build t parts =>
    refine .inl fun D w ρ ho => ?_
    split at h
    · rename_i z hz
      obtain ⟨rfl, rfl⟩ := by simpa using h
      obtain ⟨v, h1, h2⟩ := buildA_ok (D := D) (w := w) hz (vs := parts.map fun (i, x) => (i, ρ x)) (by simp) (fun j p v hp hv => by
        simp only [List.getElem?_map, Array.getElem?_toList] at hp
        simp only [Array.getElem?_map] at hv
        cases hq : parts[j]? with
        | none => rw [hq] at hp; cases hp
        | some q =>
          rw [hq] at hp hv
          obtain rfl := Option.some.inj hp
          obtain rfl := Option.some.inj hv
          refine ⟨rfl, arg ho q.2 ?_⟩
          simp only [Op.operands, List.mem_toArray, List.mem_map, Array.mem_toList_iff]
          exact ⟨q, Array.mem_of_getElem? hq, rfl⟩)
      exact ⟨v, by simp [execOp, h1], h2⟩
    · cases h
  case nilCheck y =>
    refine .inl fun D w ρ ho => ?_
    have hv := arg ho y (by simp [Op.operands])
    split at h
    · rename_i id b o hy
      obtain ⟨rfl, rfl⟩ := by simpa using h
      rw [hy] at hv
      generalize hvv : ρ y = v at hv
      cases hv
      exact ⟨_, by simp [execOp, hvv], .ptr id b o⟩
    · rename_i cs hy
      obtain ⟨rfl, rfl⟩ := by simpa using h
      rw [hy] at hv
      generalize hvv : ρ y = v at hv
      cases hv with
      | dptr cs b off vs h1 h2 h3 h4 => exact ⟨_, by simp [execOp, hvv], .dptr cs b off vs h1 h2 h3 h4⟩
    · rename_i f a b hy
      obtain ⟨rfl, rfl⟩ := by simpa using h
      rw [hy] at hv
      generalize hvv : ρ y = v at hv
      cases hv
      exact ⟨_, by simp [execOp, hvv], .val _⟩
    · rename_i f caps hy
      obtain ⟨rfl, rfl⟩ := by simpa using h
      rw [hy] at hv
      generalize hvv : ρ y = v at hv
      cases hv with
      | clo f caps vs h1 h2 => exact ⟨_, by simp [execOp, hvv], .clo f caps vs h1 h2⟩
    · cases h
  case makeFunc fn first caps =>
    refine .inl fun D w ρ ho => ?_
    split at h
    · rename_i f hf
      obtain ⟨rfl, rfl⟩ := by simpa using h
      have hf' : first = #[] := by have := congrArg List.toArray hf; simpa using this
      subst hf'
      refine ⟨_, by simp [execOp, Instr.makeFunc], .clo f _ (caps.map ρ) (by simp) (fun j x v hx hv => ?_)⟩
      simp only [Array.getElem?_map] at hv
      cases hq : caps[j]? with
      | none => rw [hq] at hv; cases hv
      | some y =>
        rw [hq] at hv
        obtain rfl := Option.some.inj hv
        simp only [List.getElem?_map, Array.getElem?_toList, hq, Option.map_some] at hx
        obtain rfl := Option.some.inj hx
        refine arg ho y ?_
        have := Array.mem_of_getElem? hq
        simp [Op.operands, this]
    · cases h
  case call c =>
    refine .inl fun D w ρ ho => ?_
    split at h
    · rename_i y t hc ha ht
      split at h
      · rename_i d hd
        split at h
        · rename_i r hr
          obtain ⟨rfl, rfl⟩ := by simpa using h
          obtain ⟨callee, args, argTypes⟩ := c
          simp only at hc ha ht
          subst hc
          have ha' : args = #[y] := by have := congrArg List.toArray ha; simpa using this
          have ht' : argTypes = #[t] := by have := congrArg List.toArray ht; simpa using this
          subst ha' ht'
          obtain ⟨u, h1, h2⟩ := lenA_ok (ty := type) hr hd (arg ho y (by simp [Op.operands, Call.operands]))
          exact ⟨u, by simp [execOp, resolve, invoke, builtin, h1], h2⟩
        · cases h
      · cases h
    · cases h
end Copyhold
