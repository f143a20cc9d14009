/- What an operation makes of an abstract state, computed: structs built, stores, slices' literals; runs of such operations. Over any program. No conditions beyond each law's own. -/
import Derived.Test.YtpdedjbkfcaebaaAbs4
set_option linter.unusedVariables false
namespace Copyhold
open Go Go.RowKit
def RepC (D : Nat → Prop) (w : World) (cs : List AV) (vs : Array Value) : Prop :=
  vs.size = cs.length ∧ (∀ (j : Nat) (u : Value), vs[j]? = some u → u.oneCell' = true) ∧ ∀ (j : Nat) (a : AV) (u : Value), cs[j]? = some a → vs[j]? = some u → Ra D w a u
theorem fold_set (off : Nat) : ∀ (l : List Value) (k : Nat) (cells : Array Value), off + k + l.length ≤ cells.size →
    ((l.zipIdx k).foldl (fun (cs : Array Value) (p : Value × Nat) => cs.setIfInBounds (off + p.2) p.1) cells).size = cells.size ∧
    ∀ j, ((l.zipIdx k).foldl (fun (cs : Array Value) (p : Value × Nat) => cs.setIfInBounds (off + p.2) p.1) cells)[j]? = if off + k ≤ j ∧ j < off + k + l.length then l[j - (off + k)]? else cells[j]?
  | [], k, cells, _ => ⟨rfl, fun j => by
      have : ¬ (off + k ≤ j ∧ j < off + k + ([] : List Value).length) := by simp
      rw [if_neg this]; rfl⟩
  | v :: l, k, cells, h => by
    simp only [List.length_cons] at h
    obtain ⟨h1, h2⟩ := fold_set off l (k + 1) (cells.setIfInBounds (off + k) v) (by simp; omega)
    simp only [List.zipIdx_cons, List.foldl_cons]
    refine ⟨by rw [h1]; simp, fun j => ?_⟩
    rw [h2 j]
    by_cases hj : off + (k + 1) ≤ j ∧ j < off + (k + 1) + l.length
    · rw [if_pos hj, if_pos (by simp only [List.length_cons]; omega)]
      rw [show j - (off + k) = (j - (off + (k + 1))) + 1 from by omega]
      simp
    · rw [if_neg hj]
      by_cases hk : j = off + k
      · subst hk
        have hlt : off + k < cells.size := by omega
        rw [if_pos (by simp only [List.length_cons]; omega)]
        simp [hlt]
      · rw [if_neg (by simp only [List.length_cons]; omega)]
        rw [Array.getElem?_setIfInBounds_ne (by omega)]
theorem RepC.put {D : Nat → Prop} {w : World} {cs xs : List AV} {vs us : Array Value} (h : RepC D w cs vs) (hx : RepC D w xs us) (off : Nat) (hf : off + xs.length ≤ cs.length) :
    RepC D w (cs.take off ++ xs ++ cs.drop (off + xs.length)) (us.zipIdx.foldl (fun (cs : Array Value) (p : Value × Nat) => cs.setIfInBounds (off + p.2) p.1) vs) := by
  have e : us.zipIdx.foldl (fun (cs : Array Value) (p : Value × Nat) => cs.setIfInBounds (off + p.2) p.1) vs = (us.toList.zipIdx 0).foldl (fun (cs : Array Value) (p : Value × Nat) => cs.setIfInBounds (off + p.2) p.1) vs := by
    rw [← Array.foldl_toList]
    simp
  rw [e]
  have hl : us.toList.length = xs.length := by simp [hx.1]
  obtain ⟨h1, h2⟩ := fold_set off us.toList 0 vs (by rw [hl, h.1]; omega)
  refine ⟨by rw [h1, h.1]; simp; omega, fun j u hu => ?_, fun j a u ha hu => ?_⟩
  · rw [h2 j] at hu
    split at hu
    · exact hx.2.1 (j - (off + 0)) u (by simpa using hu)
    · exact h.2.1 j u hu
  · rw [h2 j, hl] at hu
    have hlo : (cs.take off).length = off := by rw [List.length_take]; omega
    split at hu
    · rename_i hj
      refine hx.2.2 (j - off) a u ?_ (by simpa using hu)
      rw [List.append_assoc, List.getElem?_append_right (by omega), hlo, List.getElem?_append_left (by omega)] at ha
      exact ha
    · rename_i hj
      refine h.2.2 j a u ?_ hu
      by_cases hlt : j < off
      · rw [List.append_assoc, List.getElem?_append_left (by omega), List.getElem?_take, if_pos hlt] at ha
        exact ha
      · rw [List.append_assoc, List.getElem?_append_right (by omega), hlo, List.getElem?_append_right (by omega), List.getElem?_drop] at ha
        rw [show off + xs.length + (j - off - xs.length) = j from by omega] at ha
        exact ha
def afill (pl : List (Nat × Nat)) : List AV → List (Nat × List AV) → Option (List AV)
  | cs, [] => some cs
  | cs, (i, xs) :: r =>
    match pl[i]? with
    | some (off, sz) => bif Nat.beq xs.length sz && Nat.ble (off + sz) cs.length then afill pl (cs.take off ++ xs ++ cs.drop (off + sz)) r else none
    | none => none
theorem fill_ok {D : Nat → Prop} {w : World} {pl : List (Nat × Nat)} {pf : Nat → Option (Nat × Nat)} (hpf : ∀ i p, pl[i]? = some p → pf i = some p) :
    ∀ (qs : List (Nat × List AV)) (ps : List (Nat × Value)) (cs : List AV) (vs : Array Value) (cs' : List AV), RepC D w cs vs → qs.length = ps.length →
      (∀ (j : Nat) (q : Nat × List AV) (p : Nat × Value), qs[j]? = some q → ps[j]? = some p → q.1 = p.1 ∧ RepC D w q.2 p.2.cells) → afill pl cs qs = some cs' → ∃ vs', Instr.fill pf vs ps = some vs' ∧ RepC D w cs' vs'
  | [], [], cs, vs, cs', h, _, _, hf => by
    simp only [afill, Option.some.injEq] at hf
    subst hf
    exact ⟨vs, rfl, h⟩
  | (i, xs) :: qs, (i', v) :: ps, cs, vs, cs', h, hl, hq, hf => by
    obtain ⟨e, hx⟩ := hq 0 _ _ rfl rfl
    simp only at e hx
    subst e
    simp only [afill] at hf
    split at hf
    · rename_i off sz hp
      cases hb : (Nat.beq xs.length sz && Nat.ble (off + sz) cs.length) with
      | false => rw [hb] at hf; cases hf
      | true =>
        rw [hb] at hf
        simp only [Bool.and_eq_true] at hb
        have h1 : xs.length = sz := Nat.eq_of_beq_eq_true hb.1
        have h2 : off + sz ≤ cs.length := Nat.le_of_ble_eq_true hb.2
        subst h1
        obtain ⟨vs', g1, g2⟩ := fill_ok hpf qs ps _ _ cs' (h.put hx off h2) (by simpa using hl) (fun j q p hq' hp' => hq (j + 1) q p (by simpa using hq') (by simpa using hp')) hf
        refine ⟨vs', ?_, g2⟩
        simp only [Instr.fill, hpf i _ hp]
        have : ¬ ((v.cells.size ≠ xs.length || off + v.cells.size > vs.size) = true) := by
          simp [hx.1, h.1]
          omega
        rw [if_neg this]
        exact g1
    · cases hf
def placesP (P : Program) (t : TypeId) : Option (List (Nat × Nat)) :=
  match P.underlying t with
  | some (.struct fields) => fields.toList.mapM fun f => (P.info? f.type).map fun i => (f.offset, i.size)
  | some (.array n e) =>
    match P.info? e with
    | some i => some ((List.range n).map fun j => (j * i.size, i.size))
    | none => none
  | _ => none
def zeroA (P : Program) (t : TypeId) : Option (List AV) :=
  match P.info? t with
  | some it =>
    match it.zero with
    | some z => bif z.cells.toList.all (·.oneCell') then some (z.cells.toList.map .val) else none
    | none => none
  | none => none
def cellsAll : List (Nat × AV) → Option (List (Nat × List AV))
  | [] => some []
  | (i, x) :: r =>
    match cellsA x, cellsAll r with
    | some cs, some qs => some ((i, cs) :: qs)
    | _, _ => none
def buildA (P : Program) (t : TypeId) (parts : List (Nat × AV)) : Option AV :=
  match zeroA P t, placesP P t, cellsAll parts with
  | some z, some pl, some qs =>
    match afill pl z qs with
    | some cs => some (.agg cs)
    | none => none
  | _, _, _ => none
theorem zeroA_ok {D : Nat → Prop} {P : Program} {w : World} {t : TypeId} {cs : List AV} (h : zeroA P t = some cs) : ∃ it z, P.info? t = some it ∧ it.zero = some z ∧ RepC D w cs z.cells := by
  unfold zeroA at h
  split at h
  · rename_i it hi
    split at h
    · rename_i z hz
      cases hb : z.cells.toList.all (·.oneCell') with
      | false => rw [hb] at h; cases h
      | true =>
        rw [hb] at h
        obtain rfl := Option.some.inj h
        refine ⟨it, z, hi, hz, by simp, fun j u hu => ?_, fun j a u ha hu => ?_⟩
        · exact List.all_eq_true.1 hb u (by have := Array.mem_of_getElem? hu; simpa using this)
        · simp only [List.getElem?_map, Array.getElem?_toList, hu] at ha
          obtain rfl := Option.some.inj ha
          exact .val u
    · cases h
  · cases h
theorem cellsAll_ok {D : Nat → Prop} {w : World} : ∀ (parts : List (Nat × AV)) (qs : List (Nat × List AV)) (vs : List (Nat × Value)), cellsAll parts = some qs → parts.length = vs.length →
    (∀ (j : Nat) (p : Nat × AV) (v : Nat × Value), parts[j]? = some p → vs[j]? = some v → p.1 = v.1 ∧ Ra D w p.2 v.2) → qs.length = vs.length ∧ ∀ (j : Nat) (q : Nat × List AV) (p : Nat × Value), qs[j]? = some q → vs[j]? = some p → q.1 = p.1 ∧ RepC D w q.2 p.2.cells
  | [], qs, [], h, _, _ => by
    obtain rfl := Option.some.inj h
    exact ⟨rfl, fun j q p hq => by simp at hq⟩
  | (i, x) :: parts, qs, (i', v) :: vs, h, hl, hr => by
    simp only [cellsAll] at h
    split at h
    · rename_i cs qs' hc hq'
      obtain rfl := Option.some.inj h
      obtain ⟨h1, h2⟩ := cellsAll_ok parts qs' vs hq' (by simpa using hl) (fun j p v hp hv => hr (j + 1) p v (by simpa using hp) (by simpa using hv))
      refine ⟨by simp [h1], fun j q p hq hp => ?_⟩
      cases j with
      | zero =>
        simp at hq hp
        subst hq hp
        obtain ⟨e1, e2⟩ := hr 0 _ _ rfl rfl
        exact ⟨e1, cellsA_ok hc e2⟩
      | succ j => exact h2 j q p (by simpa using hq) (by simpa using hp)
    · cases h
theorem buildA_ok {D : Nat → Prop} {P : Program} {w : World} {t : TypeId} {parts : List (Nat × AV)} {x : AV} (h : buildA P t parts = some x) {vs : Array (Nat × Value)} (hl : parts.length = vs.size)
    (hr : ∀ (j : Nat) (p : Nat × AV) (v : Nat × Value), parts[j]? = some p → vs[j]? = some v → p.1 = v.1 ∧ Ra D w p.2 v.2) : ∃ v, (Instr.build t vs).run P w = .ok v w ∧ Ra D w x v := by
  unfold buildA at h
  split at h
  · rename_i z pl qs hz hpl hqs
    split at h
    · rename_i cs hcs
      obtain rfl := Option.some.inj h
      obtain ⟨it, zv, hi, hzv, hrep⟩ := zeroA_ok (D := D) (w := w) hz
      obtain ⟨g1, g2⟩ := cellsAll_ok (D := D) (w := w) parts qs vs.toList hqs (by simpa using hl) (fun j p v hp hv => hr j p v hp (by simpa using hv))
      have fin : ∀ pf : Nat → Option (Nat × Nat), (∀ i p, pl[i]? = some p → pf i = some p) → (∀ cells, Instr.fill pf zv.cells vs.toList = some cells → P.built t vs.toList = some cells) → ∃ v, (Instr.build t vs).run P w = .ok v w ∧ Ra D w (.agg cs) v := by
        intro pf hpf hb
        obtain ⟨vs', f1, f2⟩ := fill_ok (D := D) (w := w) hpf qs vs.toList z zv.cells cs hrep g1 g2 hcs
        exact ⟨.agg vs', run_build w t vs vs' (hb vs' f1), .agg cs vs' f2.1.symm f2.2.1 (fun j x v hx hv => f2.2.2 j x v hx hv)⟩
      unfold placesP at hpl
      split at hpl
      · rename_i fields hu
        refine fin (fun i => pl.toArray[i]?) (fun i p hp => by simpa using hp) (fun cells hc => ?_)
        simp only [Program.built, hi, hu, hzv, hpl]
        exact hc
      · rename_i n e hu
        split at hpl
        · rename_i ie hie
          obtain rfl := Option.some.inj hpl
          refine fin (fun i => some (i * ie.size, ie.size)) (fun i p hp => ?_) (fun cells hc => ?_)
          · simp only [List.getElem?_map] at hp
            cases hr : (List.range n)[i]? with
            | none => rw [hr] at hp; cases hp
            | some k =>
              rw [hr] at hp
              obtain rfl := Option.some.inj hp
              have := List.getElem?_eq_some_iff.1 hr
              obtain ⟨h1, h2⟩ := this
              simp at h2
              rw [h2]
          · simp only [Program.built, hi, hu, hzv, hie]
            exact hc
        · cases hpl
      · cases hpl
    · cases h
  · cases h
end Copyhold
