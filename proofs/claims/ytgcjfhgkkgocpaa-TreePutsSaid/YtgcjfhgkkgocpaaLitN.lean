/- A slice's literal as a row of one's own, to be grown. Over any program. No conditions beyond each law's own. -/
import Derived.Test.YtgcjfhgkkgocpaaAbsC
set_option linter.unusedVariables false
set_option linter.unusedSimpArgs false
namespace Copyhold
open Go Go.RowKit
theorem chunks_flatten {k : Nat} : ∀ (n : Nat) (cs : List AV), cs.length = n * k → (chunks k cs n).flatten = cs := by
  intro n
  induction n with
  | zero => intro cs h; simp at h; subst h; rfl
  | succ n ih =>
    intro cs h
    have h1 : (cs.take (n * k)).length = n * k := by rw [List.length_take, h, Nat.succ_mul]; omega
    have e : chunks k cs (n + 1) = chunks k (cs.take (n * k)) n ++ [cs.drop (n * k)] := by
      unfold chunks
      rw [List.range_succ, List.map_append]
      congr 1
      · refine List.map_congr_left fun i hi => ?_
        have hi : i < n := by simpa using hi
        have h2 : (i + 1) * k ≤ n * k := Nat.mul_le_mul_right k hi
        rw [Nat.succ_mul] at h2
        rw [List.drop_take, List.take_take, Nat.min_eq_left (by omega)]
      · simp only [List.map_cons, List.map_nil]
        rw [List.take_of_length_le (by rw [List.length_drop, h, Nat.succ_mul]; omega)]
    rw [e, List.flatten_append, ih _ h1]
    simp
def litN (P : Program) (ops : Array Oper) (s : LS) (i : Nat) : Option (TypeId × Nat × Nat × Nat × List AV) :=
  match opAt ops s i with
  | some o =>
    match o.op, o.dst with
    | .buildSlice t n parts, some d =>
      match elemP P t with
      | some e =>
        match szP P e, zeroA P e, cellsAll (parts.toList.map fun p => (p.1, s.ev p.2)) with
        | some k, some z, some qs =>
          bif Nat.beq z.length k && (Nat.ble 1 k && Nat.ble (n * k) 16777216) then
            match afill ((List.range n).map fun j => (j * k, k)) (List.flatten (List.replicate n z)) qs with
            | some cs => some (e, k, d, n, cs)
            | none => none
          else none
        | _, _, _ => none
      | none => none
    | _, _ => none
  | none => none
theorem seqLitN {P : Program} {ops : Array Oper} {K : FS → Prop} {rest : List Nat} {i : Nat} {s : LS} {e k d n : Nat} {cs : List AV} {f : Value → LS}
    (h : litN P ops s i = some (e, k, d, n, cs)) (hn : bget s.bx d = none) (hf : ∀ V', (s.put (some d) (.rw d V' n)).setB d (.row V' e k (chunks k cs n)) = f V') (kk : ∀ V', SeqR P ops K rest (f V').fs) : SeqR P ops K (i :: rest) s.fs := by
  unfold litN at h
  split at h
  · rename_i o ho
    obtain ⟨hi, hg⟩ := opAt_ok ho
    split at h
    · rename_i t n' parts d' hop hd
      split at h
      · rename_i e' he
        split at h
        · rename_i k' z qs hks hz hqs
          cases hb : (Nat.beq z.length k' && (Nat.ble 1 k' && Nat.ble (n' * k') 16777216)) with
          | false => rw [hb] at h; cases h
          | true =>
            rw [hb] at h
            simp only [Bool.and_eq_true] at hb
            have h1 : z.length = k' := Nat.eq_of_beq_eq_true hb.1
            have h2 : 1 ≤ k' := Nat.le_of_ble_eq_true hb.2.1
            have h3 : n' * k' ≤ 16777216 := Nat.le_of_ble_eq_true hb.2.2
            simp only [cond_true] at h
            split at h
            · rename_i cs' hcs
              simp only [Option.some.injEq, Prod.mk.injEq] at h
              obtain ⟨rfl, rfl, rfl, rfl, rfl⟩ := h
              have hlen : cs'.length = n' * k' := by
                rw [afill_length qs _ cs' hcs]
                simp [h1]
              have hch : (chunks k' cs' n').length = n' := by simp [chunks]
              have hnk : n' ≤ n' * k' := Nat.le_mul_of_pos_right n' h2
              have hck : ∀ l ∈ chunks k' cs' n', l.length = k' := fun l hl => by
                unfold chunks at hl
                obtain ⟨j, hj, rfl⟩ := List.mem_map.1 hl
                have hj : j < n' := by simpa using hj
                have : (j + 1) * k' ≤ n' * k' := Nat.mul_le_mul_right k' hj
                rw [Nat.succ_mul] at this
                rw [List.length_take, List.length_drop, hlen]
                omega
              refine ⟨o, hi, .inr ⟨hg, .inr (.inl ⟨by rw [hop]; rfl, _, mono_row (e := e') (k := k') (xs := chunks k' cs' n') hd hck (fun D w ρ hops => ?_), ?_⟩)⟩⟩
              · obtain ⟨it, zv, hi2, hzv, hrep⟩ := zeroA_ok (D := D) (w := w) hz
                have hzs : zv.cells.size = k' := by rw [hrep.1, h1]
                obtain ⟨g1, g2⟩ := cellsAll_ok (D := D) (w := w) _ qs (parts.map fun (i, x) => (i, ρ x)).toList hqs (by simp) (fun j p v hp hv => by
                  simp only [List.getElem?_map, Array.getElem?_toList] at hp
                  simp only [Array.getElem?_toList, Array.getElem?_map] at hv
                  cases hq : parts[j]? with
                  | none => rw [hq] at hp; cases hp
                  | some q =>
                    rw [hq] at hp hv
                    obtain rfl := Option.some.inj hp
                    obtain rfl := Option.some.inj hv
                    refine ⟨rfl, arg_of hops q.2 ?_⟩
                    simp only [hop, Op.operands, List.mem_toArray, List.mem_map, Array.mem_toList_iff]
                    exact ⟨q, Array.mem_of_getElem? hq, rfl⟩)
                have hz0 := repC_zeros hrep n'
                obtain ⟨vs', f1, f2⟩ := fill_ok (D := D) (w := w) (pf := fun i => some (i * k', k')) (fun i p hp => by
                  simp only [List.getElem?_map] at hp
                  cases hr : (List.range n')[i]? with
                  | none => rw [hr] at hp; cases hp
                  | some m =>
                    rw [hr] at hp
                    obtain rfl := Option.some.inj hp
                    obtain ⟨h1, h2⟩ := List.getElem?_eq_some_iff.1 hr
                    simp at h2
                    rw [h2]) qs _ _ _ cs' hz0 g1 g2 hcs
                have hvl : vs'.size = n' * k' := by rw [f2.1, hlen]
                refine ⟨.slice (some ⟨w.heap.size, 0, none⟩) n' n', w.alloc (.cells vs' e'), vs'.toList, ?_, World.grownBy_alloc w _ none, ?_, fun u hu => ?_, fun j a u ha hu => ?_⟩
                · have hnn : ¬ (n' * k' > 2 ^ 24) := by omega
                  by_cases h0 : n' * k' = 0
                  · have hn0 : n' = 0 := by omega
                    subst hn0
                    simp at f1
                    simp [execOp, hop, Instr.buildSlice, run_underlying (elemP_u he), szP_run hks, show Array.range 0 = #[] from rfl, f1, newRow]
                  · have f1' : Instr.fill (fun i => some (i * k', k')) ((Array.range (n' * k')).map (fun x => zv.cells[x % zv.cells.size]!)) (parts.map fun (i, x) => (i, ρ x)).toList = some vs' := by
                      rw [← f1]
                      congr 1
                      have := zeros_eq zv.cells n' (by omega)
                      rw [← this]
                      simp only [hzs]
                    simp [execOp, hop, Instr.buildSlice, run_underlying (elemP_u he), szP_run hks, hnn, h0, zeroValue, typeInfo, hi2, hzv]
                    simp at f1'
                    try simp [f1', newRow]
                · rw [hch]
                  exact ⟨by simp [hvl], .inr ⟨w.heap.size, n', vs', rfl, Nat.le_refl _, heap_alloc_new w _, Nat.le_refl _, by unfold maxLen; omega, hvl, by rw [List.take_of_length_le (by simp [hvl])]⟩⟩
                · obtain ⟨j, hj, rfl⟩ := List.mem_iff_getElem.1 hu
                  exact f2.2.1 j _ (by simp at hj ⊢)
                · rw [chunks_flatten n' cs' hlen] at ha
                  exact f2.2.2 j a u ha (by simpa using hu)
              · rintro z' nb ⟨V', rfl, rfl⟩
                refine ⟨fun id y hy => ?_, ?_⟩
                · obtain ⟨rfl, rfl⟩ := by simpa using hy
                  exact hn
                · have := kk V'
                  rw [← hf V', ← LS.fs_setB, ← LS.fs_put] at this
                  rw [hd, hch]
                  exact this
            · cases h
        · cases h
      · cases h
    · cases h
  · cases h
end Copyhold
