/- What an operation makes of an abstract state, computed: structs built, stores, slices' literals; runs of such operations. Over any program. No conditions beyond each law's own. What an operation that only looks and computes makes of an abstract state, computed by program, and that it is so. Over any program. No conditions beyond each law's own. A whole struct stored into a box, in a walk: one step of the world. Over any program. -/
import Derived.Test.YtlcepboedifniaaGreatDoorMrgB
import Derived.Test.YtlcepboedifniaaGreatDoorMrgA
set_option linter.unusedVariables false
namespace Copyhold
open Go Go.RowKit
def RepC (D : Nat → Prop) (w : World) (cs : List AV) (vs : Array Value) : Prop :=
  vs.size = cs.length ∧ (∀ (j : Nat) (u : Value), vs[j]? = some u → u.oneCell' = true) ∧ ∀ (j : Nat) (a : AV) (u : Value), cs[j]? = some a → vs[j]? = some u → Ra D w a u
theorem fold_set (off : Nat) : ∀ (l : List Value) (k : Nat) (cells : Array Value), off + k + l.length ≤ cells.size →
    ((l.zipIdx k).foldl (fun (cs : Array Value) (p : Value × Nat) => cs.setIfInBounds (off + p.2) p.1) cells).size = cells.size ∧
    ∀ j, ((l.zipIdx k).foldl (fun (cs : Array Value) (p : Value × Nat) => cs.setIfInBounds (off + p.2) p.1) cells)[j]? = if off + k ≤ j ∧ j < off + k + l.length then l[j - (off + k)]? else cells[j]?
  | [], k, cells, _ => ⟨rfl, fun j => by
      have : ¬ (off + k ≤ j ∧ j < off + k + ([] : List Value).length) := by simp
      rw [if_neg this]; rfl⟩
  | v :: l, k, cells, h => by
    simp only [List.length_cons] at h
    obtain ⟨h1, h2⟩ := fold_set off l (k + 1) (cells.setIfInBounds (off + k) v) (by simp; omega)
    simp only [List.zipIdx_cons, List.foldl_cons]
    refine ⟨by rw [h1]; simp, fun j => ?_⟩
    rw [h2 j]
    by_cases hj : off + (k + 1) ≤ j ∧ j < off + (k + 1) + l.length
    · rw [if_pos hj, if_pos (by simp only [List.length_cons]; omega)]
      rw [show j - (off + k) = (j - (off + (k + 1))) + 1 from by omega]
      simp
    · rw [if_neg hj]
      by_cases hk : j = off + k
      · subst hk
        have hlt : off + k < cells.size := by omega
        rw [if_pos (by simp only [List.length_cons]; omega)]
        simp [hlt]
      · rw [if_neg (by simp only [List.length_cons]; omega)]
        rw [Array.getElem?_setIfInBounds_ne (by omega)]
theorem RepC.put {D : Nat → Prop} {w : World} {cs xs : List AV} {vs us : Array Value} (h : RepC D w cs vs) (hx : RepC D w xs us) (off : Nat) (hf : off + xs.length ≤ cs.length) :
    RepC D w (cs.take off ++ xs ++ cs.drop (off + xs.length)) (us.zipIdx.foldl (fun (cs : Array Value) (p : Value × Nat) => cs.setIfInBounds (off + p.2) p.1) vs) := by
  have e : us.zipIdx.foldl (fun (cs : Array Value) (p : Value × Nat) => cs.setIfInBounds (off + p.2) p.1) vs = (us.toList.zipIdx 0).foldl (fun (cs : Array Value) (p : Value × Nat) => cs.setIfInBounds (off + p.2) p.1) vs := by
    rw [← Array.foldl_toList]
    simp
  rw [e]
  have hl : us.toList.length = xs.length := by simp [hx.1]
  obtain ⟨h1, h2⟩ := fold_set off us.toList 0 vs (by rw [hl, h.1]; omega)
  refine ⟨by rw [h1, h.1]; simp; omega, fun j u hu => ?_, fun j a u ha hu => ?_⟩
  · rw [h2 j] at hu
    split at hu
    · exact hx.2.1 (j - (off + 0)) u (by simpa using hu)
    · exact h.2.1 j u hu
  · rw [h2 j, hl] at hu
    have hlo : (cs.take off).length = off := by rw [List.length_take]; omega
    split at hu
    · rename_i hj
      refine hx.2.2 (j - off) a u ?_ (by simpa using hu)
      rw [List.append_assoc, List.getElem?_append_right (by omega), hlo, List.getElem?_append_left (by omega)] at ha
      exact ha
    · rename_i hj
      refine h.2.2 j a u ?_ hu
      by_cases hlt : j < off
      · rw [List.append_assoc, List.getElem?_append_left (by omega), List.getElem?_take, if_pos hlt] at ha
        exact ha
      · rw [List.append_assoc, List.getElem?_append_right (by omega), hlo, List.getElem?_append_right (by omega), List.getElem?_drop] at ha
        rw [show off + xs.length + (j - off - xs.length) = j from by omega] at ha
        exact ha
def afill (pl : List (Nat × Nat)) : List AV → List (Nat × List AV) → Option (List AV)
  | cs, [] => some cs
  | cs, (i, xs) :: r =>
    match pl[i]? with
    | some (off, sz) => bif Nat.beq xs.length sz && Nat.ble (off + sz) cs.length then afill pl (cs.take off ++ xs ++ cs.drop (off + sz)) r else none
    | none => none
theorem fill_ok {D : Nat → Prop} {w : World} {pl : List (Nat × Nat)} {pf : Nat → Option (Nat × Nat)} (hpf : ∀ i p, pl[i]? = some p → pf i = some p) :
    ∀ (qs : List (Nat × List AV)) (ps : List (Nat × Value)) (cs : List AV) (vs : Array Value) (cs' : List AV), RepC D w cs vs → qs.length = ps.length →
      (∀ (j : Nat) (q : Nat × List AV) (p : Nat × Value), qs[j]? = some q → ps[j]? = some p → q.1 = p.1 ∧ RepC D w q.2 p.2.cells) → afill pl cs qs = some cs' → ∃ vs', Instr.fill pf vs ps = some vs' ∧ RepC D w cs' vs'
  | [], [], cs, vs, cs', h, _, _, hf => by
    simp only [afill, Option.some.injEq] at hf
    subst hf
    exact ⟨vs, rfl, h⟩
  | (i, xs) :: qs, (i', v) :: ps, cs, vs, cs', h, hl, hq, hf => by
    obtain ⟨e, hx⟩ := hq 0 _ _ rfl rfl
    simp only at e hx
    subst e
    simp only [afill] at hf
    split at hf
    · rename_i off sz hp
      cases hb : (Nat.beq xs.length sz && Nat.ble (off + sz) cs.length) with
      | false => rw [hb] at hf; cases hf
      | true =>
        rw [hb] at hf
        simp only [Bool.and_eq_true] at hb
        have h1 : xs.length = sz := Nat.eq_of_beq_eq_true hb.1
        have h2 : off + sz ≤ cs.length := Nat.le_of_ble_eq_true hb.2
        subst h1
        obtain ⟨vs', g1, g2⟩ := fill_ok hpf qs ps _ _ cs' (h.put hx off h2) (by simpa using hl) (fun j q p hq' hp' => hq (j + 1) q p (by simpa using hq') (by simpa using hp')) hf
        refine ⟨vs', ?_, g2⟩
        simp only [Instr.fill, hpf i _ hp]
        have : ¬ ((v.cells.size ≠ xs.length || off + v.cells.size > vs.size) = true) := by
          simp [hx.1, h.1]
          omega
        rw [if_neg this]
        exact g1
    · cases hf
def placesP (P : Program) (t : TypeId) : Option (List (Nat × Nat)) :=
  match P.underlying t with
  | some (.struct fields) => fields.toList.mapM fun f => (P.info? f.type).map fun i => (f.offset, i.size)
  | some (.array n e) =>
    match P.info? e with
    | some i => some ((List.range n).map fun j => (j * i.size, i.size))
    | none => none
  | _ => none
def zeroA (P : Program) (t : TypeId) : Option (List AV) :=
  match P.info? t with
  | some it =>
    match it.zero with
    | some z => bif z.cells.toList.all (·.oneCell') then some (z.cells.toList.map .val) else none
    | none => none
  | none => none
def cellsAll : List (Nat × AV) → Option (List (Nat × List AV))
  | [] => some []
  | (i, x) :: r =>
    match cellsA x, cellsAll r with
    | some cs, some qs => some ((i, cs) :: qs)
    | _, _ => none
def buildA (P : Program) (t : TypeId) (parts : List (Nat × AV)) : Option AV :=
  match zeroA P t, placesP P t, cellsAll parts with
  | some z, some pl, some qs =>
    match afill pl z qs with
    | some cs => some (.agg cs)
    | none => none
  | _, _, _ => none
theorem zeroA_ok {D : Nat → Prop} {P : Program} {w : World} {t : TypeId} {cs : List AV} (h : zeroA P t = some cs) : ∃ it z, P.info? t = some it ∧ it.zero = some z ∧ RepC D w cs z.cells := by
  unfold zeroA at h
  split at h
  · rename_i it hi
    split at h
    · rename_i z hz
      cases hb : z.cells.toList.all (·.oneCell') with
      | false => rw [hb] at h; cases h
      | true =>
        rw [hb] at h
        obtain rfl := Option.some.inj h
        refine ⟨it, z, hi, hz, by simp, fun j u hu => ?_, fun j a u ha hu => ?_⟩
        · exact List.all_eq_true.1 hb u (by have := Array.mem_of_getElem? hu; simpa using this)
        · simp only [List.getElem?_map, Array.getElem?_toList, hu] at ha
          obtain rfl := Option.some.inj ha
          exact .val u
    · cases h
  · cases h
theorem cellsAll_ok {D : Nat → Prop} {w : World} : ∀ (parts : List (Nat × AV)) (qs : List (Nat × List AV)) (vs : List (Nat × Value)), cellsAll parts = some qs → parts.length = vs.length →
    (∀ (j : Nat) (p : Nat × AV) (v : Nat × Value), parts[j]? = some p → vs[j]? = some v → p.1 = v.1 ∧ Ra D w p.2 v.2) → qs.length = vs.length ∧ ∀ (j : Nat) (q : Nat × List AV) (p : Nat × Value), qs[j]? = some q → vs[j]? = some p → q.1 = p.1 ∧ RepC D w q.2 p.2.cells
  | [], qs, [], h, _, _ => by
    obtain rfl := Option.some.inj h
    exact ⟨rfl, fun j q p hq => by simp at hq⟩
  | (i, x) :: parts, qs, (i', v) :: vs, h, hl, hr => by
    simp only [cellsAll] at h
    split at h
    · rename_i cs qs' hc hq'
      obtain rfl := Option.some.inj h
      obtain ⟨h1, h2⟩ := cellsAll_ok parts qs' vs hq' (by simpa using hl) (fun j p v hp hv => hr (j + 1) p v (by simpa using hp) (by simpa using hv))
      refine ⟨by simp [h1], fun j q p hq hp => ?_⟩
      cases j with
      | zero =>
        simp at hq hp
        subst hq hp
        obtain ⟨e1, e2⟩ := hr 0 _ _ rfl rfl
        exact ⟨e1, cellsA_ok hc e2⟩
      | succ j => exact h2 j q p (by simpa using hq) (by simpa using hp)
    · cases h
theorem buildA_ok {D : Nat → Prop} {P : Program} {w : World} {t : TypeId} {parts : List (Nat × AV)} {x : AV} (h : buildA P t parts = some x) {vs : Array (Nat × Value)} (hl : parts.length = vs.size)
    (hr : ∀ (j : Nat) (p : Nat × AV) (v : Nat × Value), parts[j]? = some p → vs[j]? = some v → p.1 = v.1 ∧ Ra D w p.2 v.2) : ∃ v, (Instr.build t vs).run P w = .ok v w ∧ Ra D w x v := by
  unfold buildA at h
  split at h
  · rename_i z pl qs hz hpl hqs
    split at h
    · rename_i cs hcs
      obtain rfl := Option.some.inj h
      obtain ⟨it, zv, hi, hzv, hrep⟩ := zeroA_ok (D := D) (w := w) hz
      obtain ⟨g1, g2⟩ := cellsAll_ok (D := D) (w := w) parts qs vs.toList hqs (by simpa using hl) (fun j p v hp hv => hr j p v hp (by simpa using hv))
      have fin : ∀ pf : Nat → Option (Nat × Nat), (∀ i p, pl[i]? = some p → pf i = some p) → (∀ cells, Instr.fill pf zv.cells vs.toList = some cells → P.built t vs.toList = some cells) → ∃ v, (Instr.build t vs).run P w = .ok v w ∧ Ra D w (.agg cs) v := by
        intro pf hpf hb
        obtain ⟨vs', f1, f2⟩ := fill_ok (D := D) (w := w) hpf qs vs.toList z zv.cells cs hrep g1 g2 hcs
        exact ⟨.agg vs', run_build w t vs vs' (hb vs' f1), .agg cs vs' f2.1.symm f2.2.1 (fun j x v hx hv => f2.2.2 j x v hx hv)⟩
      unfold placesP at hpl
      split at hpl
      · rename_i fields hu
        refine fin (fun i => pl.toArray[i]?) (fun i p hp => by simpa using hp) (fun cells hc => ?_)
        simp only [Program.built, hi, hu, hzv, hpl]
        exact hc
      · rename_i n e hu
        split at hpl
        · rename_i ie hie
          obtain rfl := Option.some.inj hpl
          refine fin (fun i => some (i * ie.size, ie.size)) (fun i p hp => ?_) (fun cells hc => ?_)
          · simp only [List.getElem?_map] at hp
            cases hr : (List.range n)[i]? with
            | none => rw [hr] at hp; cases hp
            | some k =>
              rw [hr] at hp
              obtain rfl := Option.some.inj hp
              have := List.getElem?_eq_some_iff.1 hr
              obtain ⟨h1, h2⟩ := this
              simp at h2
              rw [h2]
          · simp only [Program.built, hi, hu, hzv, hie]
            exact hc
        · cases hpl
      · cases hpl
    · cases h
  · cases h
end Copyhold

set_option linter.unusedVariables false
namespace Copyhold
open Go Go.RowKit
theorem part_run {D : Nat → Prop} {P : Program} {w : World} {t : TypeId} {cs : List AV} {vs : Array Value} {off : Nat} {x : AV} (h : RepC D w cs vs) (hx : partA P t (cs.drop off) = some x) : ∃ v, (part t vs off).run P w = .ok v w ∧ Ra D w x v := by
  unfold partA at hx
  split at hx
  · rename_i ha
    split at hx
    · rename_i n hn
      cases hb : Nat.ble n (cs.drop off).length with
      | false => rw [hb] at hx; cases hx
      | true =>
        rw [hb] at hx
        obtain rfl := Option.some.inj hx
        have hle := Nat.le_of_ble_eq_true hb
        rw [List.length_drop] at hle
        refine ⟨.agg (vs.extract off (off + n)), by simp [part, isAggP_run ha, szP_run hn], .agg _ _ ?_ (fun j v hv => ?_) (fun j x v hx hv => ?_)⟩
        · have := h.1
          simp
          omega
        · rw [Array.getElem?_extract] at hv
          split at hv
          · exact h.2.1 _ v hv
          · cases hv
        · rw [Array.getElem?_extract] at hv
          rw [List.getElem?_take] at hx
          split at hv
          · split at hx
            · rw [List.getElem?_drop] at hx
              exact h.2.2 _ x v hx hv
            · cases hx
          · cases hv
    · cases hx
  · rename_i ha
    rw [List.head?_eq_getElem?, List.getElem?_drop, Nat.add_zero] at hx
    have hj : off < vs.size := by have := (List.getElem?_eq_some_iff.1 hx).1; have := h.1; omega
    exact ⟨vs[off], by simp [part, isAggP_run ha, hj], h.2.2 off x vs[off] hx (by simp [hj])⟩
  · cases hx
def lenA : AV → TypeDesc → Option AV
  | .sl _ _ xs, .slice _ => some (.val (.int .i64 xs.length))
  | .rw _ _ n, .slice _ => some (.val (.int .i64 n))
  | .val (.slice _ n _), .slice _ => some (.val (.int .i64 n))
  | .val (.string ⟨⟨l⟩⟩), .string => some (.val (.int .i64 l.length))
  | _, _ => none
def evO (P : Program) (s : LS) : Op → Option (List Prop × AV)
  | .move x => some ([], s.ev x)
  | .assign x => some ([], s.ev x)
  | .pick c a b =>
    match s.ev c with
    | .val (.bool true) => some ([], s.ev a)
    | .val (.bool false) => some ([], s.ev b)
    | _ => none
  | .load t a =>
    match s.ev a with
    | .ptr id b off =>
      match bget s.bx id with
      | some (.box b' _ cs) =>
        match partA P t (cs.drop off) with
        | some x => some ([b' = b], x)
        | none => none
      | _ => none
    | .dptr cs =>
      match partA P t cs with
      | some x => some ([], x)
      | none => none
    | _ => none
  | .fieldAddr st x f =>
    match fldP P st f with
    | some (off, _) =>
      match s.ev x with
      | .ptr id b o => some ([], .ptr id b (o + off))
      | .dptr cs => some ([], .dptr (cs.drop off))
      | _ => none
    | none => none
  | .field st x f =>
    match fldP P st f with
    | some (off, ty) =>
      match s.ev x with
      | .agg cs =>
        match partA P ty (cs.drop off) with
        | some x => some ([], x)
        | none => none
      | _ => none
    | none => none
  | .extract x i =>
    match s.ev x with
    | .tup l =>
      match l[i]? with
      | some x => some ([], x)
      | none => none
    | _ => none
  | .binOp op t x y _ => binA P op t (s.ev x) (s.ev y)
  | .unOp .not _ x =>
    match s.ev x with
    | .val (.bool b) => some ([], .val (.bool (!b)))
    | _ => none
  | .convert src dst x =>
    match P.underlying src, P.underlying dst, s.ev x with
    | some _, some (.int k), .val (.int _ n) => some ([rng k n], .val (.int k n))
    | some _, some .string, .val (.string t) => some ([], .val (.string t))
    | _, _, _ => none
  | .build t parts =>
    match buildA P t (parts.toList.map fun p => (p.1, s.ev p.2)) with
    | some x => some ([], x)
    | none => none
  | .nilCheck x =>
    match s.ev x with
    | .ptr id b o => some ([], .ptr id b o)
    | .dptr cs => some ([], .dptr cs)
    | .val (.func (.func f) a b) => some ([], .val (.func (.func f) a b))
    | .clo f caps => some ([], .clo f caps)
    | _ => none
  | .makeFunc fn first caps =>
    match fn, first.toList with
    | .func f, [] => some ([], .clo f (caps.toList.map s.ev))
    | _, _ => none
  | .call c =>
    match c.callee, c.args.toList, c.argTypes.toList with
    | .builtin .len, [x], [t] =>
      match P.underlying t with
      | some d =>
        match lenA (s.ev x) d with
        | some r => some ([], r)
        | none => none
      | none => none
    | _, _, _ => none
  | _ => none
theorem lenA_ok {D : Nat → Prop} {P : Program} {w : World} {x r : AV} {d : TypeDesc} {t ty : TypeId} {v : Value} (h : lenA x d = some r) (hu : P.underlying t = some d) (hv : Ra D w x v) : ∃ u, (Builtin.len_ #[t] ty #[v]).run P w = .ok u w ∧ Ra D w r u := by
  unfold lenA at h
  split at h
  · obtain rfl := Option.some.inj h
    cases hv
    exact ⟨_, by simp [Builtin.len_, run_underlying hu, goInt], .val _⟩
  · obtain rfl := Option.some.inj h
    cases hv
    exact ⟨_, by simp [Builtin.len_, run_underlying hu, goInt], .val _⟩
  · obtain rfl := Option.some.inj h
    cases hv
    exact ⟨_, by simp [Builtin.len_, run_underlying hu, goInt], .val _⟩
  · obtain rfl := Option.some.inj h
    cases hv
    exact ⟨_, by
      simp [Builtin.len_, run_underlying hu, goInt]
      rfl, .val _⟩
  · cases h
theorem evO_ok {P : Program} {s : LS} {o : Oper} {ps : List Prop} {x : AV} (h : evO P s o.op = some (ps, x)) (hp : allP ps) : PureOK P o s.fs x ∨ (isLd o.op = true ∧ ReadOK P o s.fs x) := by
  obtain ⟨dst, op, type, pos, after, guard⟩ := o
  simp only at h
  have arg : ∀ {D : Nat → Prop} {w : World} {ρ : Operand → Value} {o : Oper}, opsR D w s.fs ρ o → ∀ y, y ∈ o.op.operands → Ra D w (s.ev y) (ρ y) := fun ho y hy => by
    have := ho y hy
    rwa [LS.fs_ev] at this
  cases op <;> simp only [evO] at h <;> (try (cases h; done))
  case move y =>
    obtain ⟨rfl, rfl⟩ := by simpa using h
    exact .inl fun D w ρ ho => ⟨_, rfl, arg ho y (by simp [Op.operands])⟩
  case assign y =>
    obtain ⟨rfl, rfl⟩ := by simpa using h
    exact .inl fun D w ρ ho => ⟨_, rfl, arg ho y (by simp [Op.operands])⟩
  case pick c a b =>
    split at h
    · rename_i hc
      obtain ⟨rfl, rfl⟩ := by simpa using h
      refine .inl fun D w ρ ho => ⟨ρ a, ?_, arg ho a (by simp [Op.operands])⟩
      have hv := arg ho c (by simp [Op.operands])
      rw [hc] at hv
      generalize hvv : ρ c = v at hv
      cases hv
      simp [execOp, hvv, asBool]
    · rename_i hc
      obtain ⟨rfl, rfl⟩ := by simpa using h
      refine .inl fun D w ρ ho => ⟨ρ b, ?_, arg ho b (by simp [Op.operands])⟩
      have hv := arg ho c (by simp [Op.operands])
      rw [hc] at hv
      generalize hvv : ρ c = v at hv
      cases hv
      simp [execOp, hvv, asBool]
    · cases h
  case load t a =>
    refine .inr ⟨rfl, fun D w ρ ho hbx => ?_⟩
    have hv := arg ho a (by simp [Op.operands])
    split at h
    · rename_i id b off ha
      rw [ha] at hv
      generalize hvv : ρ a = v at hv
      cases hv
      split at h
      · rename_i b' T cs hy
        split at h
        · rename_i z hz
          obtain ⟨rfl, rfl⟩ := by simpa using h
          have hb : b' = b := hp.1
          subst hb
          have hc := (BoxR.cells (hbx id _ hy)).drop off
          rw [Nat.zero_add] at hc
          obtain ⟨v, h1, h2⟩ := load_part (P := P) hc hz
          exact ⟨v, by simp [execOp, hvv, Instr.loadAt, Instr.sureAddr, h1], h2⟩
        · cases h
      · cases h
    · rename_i cs ha
      rw [ha] at hv
      generalize hvv : ρ a = v at hv
      split at h
      · rename_i z hz
        obtain ⟨rfl, rfl⟩ := by simpa using h
        cases hv with
        | dptr cs b off vs h1 h2 h3 h4 =>
          have hc : CellsAt D w b off cs := fun j x hx => ⟨vs j, (h3 j x hx).1, (h3 j x hx).2, h4 j x hx⟩
          obtain ⟨v, g1, g2⟩ := load_part (P := P) hc hz
          exact ⟨v, by simp [execOp, hvv, Instr.loadAt, Instr.sureAddr, g1], g2⟩
      · cases h
    · cases h
  case fieldAddr st y f =>
    refine .inl fun D w ρ ho => ?_
    have hv := arg ho y (by simp [Op.operands])
    split at h
    · rename_i off ty hf
      unfold fldP at hf
      split at hf
      · rename_i fs hu
        split at hf
        · rename_i fd hfd
          split at hf
          · rename_i n hn
            have hoff : fd.offset = off := by
              have := Option.some.inj hf
              exact (Prod.mk.inj this).1
            subst hoff
            have hrun : ∀ b o, (Instr.fieldAt st (.pointer (some ⟨b, o, none⟩)) f).run P w = .ok (.pointer (some ⟨b, o + fd.offset, none⟩)) w := fun b o => by
              simp [Instr.fieldAt, run_underlying hu, hfd, Instr.sureAddr, fieldPlace, szP_run hn, add_plain']
            split at h
            · rename_i id b o hy
              obtain ⟨rfl, rfl⟩ := by simpa using h
              rw [hy] at hv
              generalize hvv : ρ y = v at hv
              cases hv
              exact ⟨_, by simp [execOp, hvv, hrun], .ptr id b _⟩
            · rename_i cs hy
              obtain ⟨rfl, rfl⟩ := by simpa using h
              rw [hy] at hv
              generalize hvv : ρ y = v at hv
              cases hv with
              | dptr cs b o vs h1 h2 h3 h4 =>
                refine ⟨.pointer (some ⟨b, o + fd.offset, none⟩), by simp [execOp, hvv, hrun], .dptr _ b (o + fd.offset) (fun j => vs (fd.offset + j)) h1 h2 (fun j x hx => ?_) (fun j x hx => ?_)⟩
                · rw [List.getElem?_drop] at hx
                  rw [Nat.add_assoc]
                  exact h3 _ x hx
                · rw [List.getElem?_drop] at hx
                  exact h4 _ x hx
            · cases h
          · cases hf
        · cases hf
      · cases hf
    · cases h
  case field st y f =>
    refine .inl fun D w ρ ho => ?_
    have hv := arg ho y (by simp [Op.operands])
    split at h
    · rename_i off ty hf
      unfold fldP at hf
      split at hf
      · rename_i fs hu
        split at hf
        · rename_i fd hfd
          split at hf
          · rename_i n hn
            have hoff := Prod.mk.inj (Option.some.inj hf)
            obtain ⟨e1, e2⟩ := hoff
            subst e1 e2
            split at h
            · rename_i cs hy
              split at h
              · rename_i z hz
                obtain ⟨rfl, rfl⟩ := by simpa using h
                rw [hy] at hv
                generalize hvv : ρ y = v at hv
                cases hv with
                | agg cs vs h1 h2 h3 =>
                  obtain ⟨v, g1, g2⟩ := part_run (P := P) (D := D) (w := w) ⟨h1.symm, h2, h3⟩ hz
                  exact ⟨v, by simp [execOp, hvv, Instr.field, run_underlying hu, hfd, asAgg, g1], g2⟩
              · cases h
            · cases h
          · cases hf
        · cases hf
      · cases hf
    · cases h
  case extract y i =>
    refine .inl fun D w ρ ho => ?_
    have hv := arg ho y (by simp [Op.operands])
    split at h
    · rename_i l hy
      split at h
      · rename_i z hz
        obtain ⟨rfl, rfl⟩ := by simpa using h
        rw [hy] at hv
        generalize hvv : ρ y = v at hv
        cases hv with
        | tup l vs h1 h2 =>
          have hi : i < vs.size := by have := (List.getElem?_eq_some_iff.1 hz).1; omega
          exact ⟨vs[i], by simp [execOp, hvv, Instr.extract, hi], h2 i z vs[i] hz (by simp [hi])⟩
      · cases h
    · cases h
  case binOp op t y z yt =>
    refine .inl fun D w ρ ho => ?_
    obtain ⟨r, h1, h2⟩ := binA_ok h hp (arg ho y (by simp [Op.operands])) (arg ho z (by simp [Op.operands])) y z
    refine ⟨r, ?_, h2⟩
    simp only [execOp, Sem.run_bind] at h1 ⊢
    simp [h1]
  case unOp op t y =>
    refine .inl fun D w ρ ho => ?_
    have hv := arg ho y (by simp [Op.operands])
    cases op <;> simp only at h <;> (try (cases h; done))
    split at h
    · rename_i b hy
      obtain ⟨rfl, rfl⟩ := by simpa using h
      rw [hy] at hv
      generalize hvv : ρ y = v at hv
      cases hv
      exact ⟨_, by simp [execOp, hvv, Op.unary], .val _⟩
    · cases h
  case convert src dst y =>
    refine .inl fun D w ρ ho => ?_
    have hv := arg ho y (by simp [Op.operands])
    split at h
    · rename_i d k k' n hs hd hy
      obtain ⟨rfl, rfl⟩ := by simpa using h
      rw [hy] at hv
      generalize hvv : ρ y = v at hv
      cases hv
      exact ⟨_, by simp [execOp, hvv, Go.convert, run_underlying hs, run_underlying hd, Conv.intToInt, rng_wrap hp.1], .val _⟩
    · rename_i d t hs hd hy
      obtain ⟨rfl, rfl⟩ := by simpa using h
      rw [hy] at hv
      generalize hvv : ρ y = v at hv
      cases hv
      exact ⟨_, by simp [execOp, hvv, Go.convert, run_underlying hs, run_underlying hd], .val _⟩
    · cases h
  case build t parts =>
    refine .inl fun D w ρ ho => ?_
    split at h
    · rename_i z hz
      obtain ⟨rfl, rfl⟩ := by simpa using h
      obtain ⟨v, h1, h2⟩ := buildA_ok (D := D) (w := w) hz (vs := parts.map fun (i, x) => (i, ρ x)) (by simp) (fun j p v hp hv => by
        simp only [List.getElem?_map, Array.getElem?_toList] at hp
        simp only [Array.getElem?_map] at hv
        cases hq : parts[j]? with
        | none => rw [hq] at hp; cases hp
        | some q =>
          rw [hq] at hp hv
          obtain rfl := Option.some.inj hp
          obtain rfl := Option.some.inj hv
          refine ⟨rfl, arg ho q.2 ?_⟩
          simp only [Op.operands, List.mem_toArray, List.mem_map, Array.mem_toList_iff]
          exact ⟨q, Array.mem_of_getElem? hq, rfl⟩)
      exact ⟨v, by simp [execOp, h1], h2⟩
    · cases h
  case nilCheck y =>
    refine .inl fun D w ρ ho => ?_
    have hv := arg ho y (by simp [Op.operands])
    split at h
    · rename_i id b o hy
      obtain ⟨rfl, rfl⟩ := by simpa using h
      rw [hy] at hv
      generalize hvv : ρ y = v at hv
      cases hv
      exact ⟨_, by simp [execOp, hvv], .ptr id b o⟩
    · rename_i cs hy
      obtain ⟨rfl, rfl⟩ := by simpa using h
      rw [hy] at hv
      generalize hvv : ρ y = v at hv
      cases hv with
      | dptr cs b off vs h1 h2 h3 h4 => exact ⟨_, by simp [execOp, hvv], .dptr cs b off vs h1 h2 h3 h4⟩
    · rename_i f a b hy
      obtain ⟨rfl, rfl⟩ := by simpa using h
      rw [hy] at hv
      generalize hvv : ρ y = v at hv
      cases hv
      exact ⟨_, by simp [execOp, hvv], .val _⟩
    · rename_i f caps hy
      obtain ⟨rfl, rfl⟩ := by simpa using h
      rw [hy] at hv
      generalize hvv : ρ y = v at hv
      cases hv with
      | clo f caps vs h1 h2 => exact ⟨_, by simp [execOp, hvv], .clo f caps vs h1 h2⟩
    · cases h
  case makeFunc fn first caps =>
    refine .inl fun D w ρ ho => ?_
    split at h
    · rename_i f hf
      obtain ⟨rfl, rfl⟩ := by simpa using h
      have hf' : first = #[] := by have := congrArg List.toArray hf; simpa using this
      subst hf'
      refine ⟨_, by simp [execOp, Instr.makeFunc], .clo f _ (caps.map ρ) (by simp) (fun j x v hx hv => ?_)⟩
      simp only [Array.getElem?_map] at hv
      cases hq : caps[j]? with
      | none => rw [hq] at hv; cases hv
      | some y =>
        rw [hq] at hv
        obtain rfl := Option.some.inj hv
        simp only [List.getElem?_map, Array.getElem?_toList, hq, Option.map_some] at hx
        obtain rfl := Option.some.inj hx
        refine arg ho y ?_
        have := Array.mem_of_getElem? hq
        simp [Op.operands, this]
    · cases h
  case call c =>
    refine .inl fun D w ρ ho => ?_
    split at h
    · rename_i y t hc ha ht
      split at h
      · rename_i d hd
        split at h
        · rename_i r hr
          obtain ⟨rfl, rfl⟩ := by simpa using h
          obtain ⟨callee, args, argTypes⟩ := c
          simp only at hc ha ht
          subst hc
          have ha' : args = #[y] := by have := congrArg List.toArray ha; simpa using this
          have ht' : argTypes = #[t] := by have := congrArg List.toArray ht; simpa using this
          subst ha' ht'
          obtain ⟨u, h1, h2⟩ := lenA_ok (ty := type) hr hd (arg ho y (by simp [Op.operands, Call.operands]))
          exact ⟨u, by simp [execOp, resolve, invoke, builtin, h1], h2⟩
        · cases h
      · cases h
    · cases h
end Copyhold

namespace Copyhold
open Go Go.RowKit
theorem TBox.setRow {w : World} {B : Nat} {T : TypeId} {cur : Array Value} (h : TBox w B T cur) (cs : Array Value) : TBox (w.setRow B cs) B T cs := setRow_heap w B cur cs T (0, 0) h
end Copyhold
