/- Steps of a region over abstract states, as lists: runs of operations that are computed, new boxes, slices' literals, calls. Over any program. No conditions beyond each law's own. Steps of a region over abstract states: new boxes, calls, elements of slices; states that say less; over any program. No conditions beyond each law's own. -/
import Derived.Test.YtlcepboedifniaaGreatDoorMrgC
set_option linter.unusedVariables false
namespace Copyhold
open Go Go.RowKit
def chunks (k : Nat) (cs : List AV) (n : Nat) : List (List AV) := (List.range n).map fun i => (cs.drop (i * k)).take k
def stO (P : Program) (s : LS) (o : Oper) : Option (List Prop × LS) :=
  match o.op with
  | .store t a x =>
    match s.ev a, cellsA (s.ev x), szP P t with
    | .ptr id b off, some cs, some n =>
      match bget s.bx id with
      | some (.box b' T ds) => bif Nat.beq cs.length n && Nat.ble (off + n) ds.length then some ([b' = b], (s.put o.dst .any).setB id (.box b' T (ds.take off ++ cs ++ ds.drop (off + cs.length)))) else none
      | _ => none
    | _, _, _ => none
  | .buildSlice t n parts =>
    match elemP P t with
    | some e =>
      match szP P e, zeroA P e, cellsAll (parts.toList.map fun p => (p.1, s.ev p.2)) with
      | some k, some z, some qs =>
        bif Nat.beq z.length k && (Nat.ble 1 k && Nat.ble (n * k) 16777216) then
          match afill ((List.range n).map fun j => (j * k, k)) (List.flatten (List.replicate n z)) qs with
          | some cs => some ([], s.put o.dst (.sl k true (chunks k cs n)))
          | none => none
        else none
      | _, _, _ => none
    | none => none
  | _ => none
def stp (P : Program) (ops : Array Oper) (s : LS) (i : Nat) : Option (List Prop × LS) :=
  match ops[i]? with
  | some o =>
    match gd ops s.fs o with
    | some false => some ([], s.put o.dst (.val undef))
    | some true =>
      match evO P s o.op with
      | some (ps, x) => some (ps, s.put o.dst x)
      | none => stO P s o
    | none => none
  | none => none
def runD (P : Program) (ops : Array Oper) : List Nat → LS → Option (List Prop × LS)
  | [], s => some ([], s)
  | i :: r, s =>
    match stp P ops s i with
    | some (ps, s') =>
      match runD P ops r s' with
      | some (qs, s'') => some (ps ++ qs, s'')
      | none => none
    | none => none
theorem elemP_u {P : Program} {t e : TypeId} (h : elemP P t = some e) : P.underlying t = some (.slice e) := by
  unfold elemP at h
  split at h
  · rename_i e' hu
    rw [hu, Option.some.inj h]
  · cases h
theorem zeros_eq (z : Array Value) (n : Nat) (hz : 0 < z.size) : ((Array.range (n * z.size)).map (fun x => z[x % z.size]!)).toList = (List.replicate n z.toList).flatten := by
  induction n with
  | zero => simp
  | succ n ih =>
    rw [List.replicate_succ', List.flatten_append]
    rw [← ih]
    apply List.ext_getElem?
    intro j
    by_cases hj : j < n * z.size
    · rw [List.getElem?_append_left (by simpa using hj)]
      have : j < (n + 1) * z.size := by rw [Nat.succ_mul]; omega
      simp [hj, this]
    · have hlen : (((Array.range (n * z.size)).map (fun x => z[x % z.size]!)).toList).length = n * z.size := by simp
      rw [List.getElem?_append_right (by omega), hlen]
      by_cases hj2 : j < (n + 1) * z.size
      · have hm : j % z.size = j - n * z.size := by
          have e : j = (j - n * z.size) + z.size * n := by rw [Nat.mul_comm z.size n]; omega
          have hlt : j - n * z.size < z.size := by rw [Nat.succ_mul] at hj2; omega
          conv => lhs; rw [e]
          rw [Nat.add_mul_mod_self_left, Nat.mod_eq_of_lt hlt]
        have hlt : j - n * z.size < z.size := by rw [Nat.succ_mul] at hj2; omega
        simp [hj2, hm, hlt]
      · have h1 : ¬ j - n * z.size < z.size := by rw [Nat.succ_mul] at hj2; omega
        simp [hj2]
        omega
theorem repC_zeros {D : Nat → Prop} {w : World} {z : List AV} {zv : Array Value} (h : RepC D w z zv) : ∀ n, RepC D w (List.replicate n z).flatten (List.replicate n zv.toList).flatten.toArray
  | 0 => ⟨by simp, fun j u hu => by simp at hu, fun j a u ha => by simp at ha⟩
  | n + 1 => by
    obtain ⟨h1, h2, h3⟩ := repC_zeros h n
    have hl : z.length = zv.toList.length := by simpa using h.1.symm
    have h1' : (List.replicate n z).flatten.length = (List.replicate n zv.toList).flatten.length := by simpa using h1.symm
    simp only [List.replicate_succ, List.flatten_cons]
    refine ⟨by simp [h.1], fun j u hu => ?_, fun j a u ha hu => ?_⟩
    · rw [List.getElem?_toArray] at hu
      by_cases hj : j < zv.toList.length
      · rw [List.getElem?_append_left hj] at hu
        exact h.2.1 j u (by simpa using hu)
      · rw [List.getElem?_append_right (by omega)] at hu
        exact h2 _ u (by rw [List.getElem?_toArray]; exact hu)
    · rw [List.getElem?_toArray] at hu
      by_cases hj : j < zv.toList.length
      · rw [List.getElem?_append_left hj] at hu
        rw [List.getElem?_append_left (by omega)] at ha
        exact h.2.2 j a u ha (by simpa using hu)
      · rw [List.getElem?_append_right (by omega)] at hu
        rw [List.getElem?_append_right (by omega), hl] at ha
        exact h3 _ a u ha (by rw [List.getElem?_toArray]; exact hu)
theorem sl_new {D : Nat → Prop} {w w' : World} {T : TypeId} {k n : Nat} {cs : List AV} {vs : Array Value} (hB : TBox w' w.heap.size T vs) (hb : Below w.heap.size w w') (h : RepC D w cs vs) (hD : ∀ b, D b → b < w.heap.size) (hl : cs.length = n * k) :
    Ra (fun b => D b ∨ b = w.heap.size) w' (.sl k true (chunks k cs n)) (.slice (some ⟨w.heap.size, 0, none⟩) n n) := by
  have hlen : (chunks k cs n).length = n := by simp [chunks]
  have hget : ∀ (i : Nat) (e : List AV), (chunks k cs n)[i]? = some e → i < n ∧ e = (cs.drop (i * k)).take k := fun i e he => by
    have hi : i < n := by have := (List.getElem?_eq_some_iff.1 he).1; omega
    simp [chunks, hi] at he
    exact ⟨hi, he.symm⟩
  have hin : ∀ i j, i < n → j < k → i * k + j < n * k := fun i j hi hj => by
    have : (i + 1) * k ≤ n * k := Nat.mul_le_mul_right k hi
    rw [Nat.succ_mul] at this
    omega
  have hcell : ∀ (i : Nat) (e : List AV) (j : Nat) (x : AV), (chunks k cs n)[i]? = some e → e[j]? = some x → i < n ∧ j < k ∧ cs[i * k + j]? = some x := fun i e j x he hx => by
    obtain ⟨hi, rfl⟩ := hget i e he
    rw [List.getElem?_take] at hx
    split at hx
    · rename_i hj
      rw [List.getElem?_drop] at hx
      exact ⟨hi, hj, hx⟩
    · cases hx
  have key := Ra.sl (D := fun b => D b ∨ b = w.heap.size) (w := w') k true (chunks k cs n) (some ⟨w.heap.size, 0, none⟩) (chunks k cs n).length w.heap.size 0 (fun i j => vs.getD (i * k + j) undef)
    (Nat.le_refl _) (fun _ => rfl) (fun _ => ⟨rfl, .inr rfl, hB.lt⟩) (fun i e he => by
      obtain ⟨hi, rfl⟩ := hget i e he
      rw [List.length_take, List.length_drop, hl]
      have : (i + 1) * k ≤ n * k := Nat.mul_le_mul_right k hi
      rw [Nat.succ_mul] at this
      omega)
    (fun i e j x he hx => by
      obtain ⟨hi, hj, hc⟩ := hcell i e j x he hx
      have hlt : i * k + j < vs.size := by rw [h.1, hl]; exact hin i j hi hj
      have hv : vs[i * k + j]? = some vs[i * k + j] := by simp [hlt]
      rw [Nat.zero_add, hB.cell]
      simp only [Array.getD_eq_getD_getElem?, hv, Option.getD_some]
      exact ⟨trivial, h.2.1 _ _ hv⟩)
    (fun i e j x he hx => by
      obtain ⟨hi, hj, hc⟩ := hcell i e j x he hx
      have hlt : i * k + j < vs.size := by rw [h.1, hl]; exact hin i j hi hj
      have hv : vs[i * k + j]? = some vs[i * k + j] := by simp [hlt]
      simp only [Array.getD_eq_getD_getElem?, hv, Option.getD_some]
      exact (h.2.2 _ x _ hc hv).frame (fun b h => .inl h) hb.size (fun b hd hlt => hb.block b hlt))
  rw [hlen] at key
  exact key
theorem afill_length {pl : List (Nat × Nat)} : ∀ (qs : List (Nat × List AV)) (cs cs' : List AV), afill pl cs qs = some cs' → cs'.length = cs.length
  | [], cs, cs', h => by
    simp only [afill, Option.some.injEq] at h
    rw [h]
  | (i, xs) :: qs, cs, cs', h => by
    simp only [afill] at h
    split at h
    · rename_i off sz hp
      cases hb : (Nat.beq xs.length sz && Nat.ble (off + sz) cs.length) with
      | false => rw [hb] at h; cases h
      | true =>
        rw [hb] at h
        simp only [Bool.and_eq_true] at hb
        have h1 : xs.length = sz := Nat.eq_of_beq_eq_true hb.1
        have h2 : off + sz ≤ cs.length := Nat.le_of_ble_eq_true hb.2
        rw [afill_length qs _ cs' h]
        simp
        omega
    · cases h
theorem arg_of {D : Nat → Prop} {w : World} {s : LS} {ρ : Operand → Value} {o : Oper} (ho : opsR D w s.fs ρ o) (y : Operand) (hy : y ∈ o.op.operands) : Ra D w (s.ev y) (ρ y) := by
  have := ho y hy
  rwa [LS.fs_ev] at this
theorem stO_ok {P : Program} {ops : Array Oper} {i : Nat} {s s' : LS} {o : Oper} {ps : List Prop} {K : FS → Prop} (hi : ops[i]? = some o) (hg : gd ops s.fs o = some true) (h : stO P s o = some (ps, s')) (hp : allP ps) (hk : K s'.fs) : StepR P ops i s.fs K := by
  refine ⟨o, hi, .inr ⟨hg, .inr ?_⟩⟩
  obtain ⟨dst, op, type, pos, after, guard⟩ := o
  cases op <;> simp only [stO] at h <;> (try (cases h; done))
  case store t a x =>
    right
    refine ⟨rfl, rfl, ?_⟩
    split at h
    · rename_i id b off cs n ha hx hn
      split at h
      · rename_i b' T ds hy
        cases hb : (Nat.beq cs.length n && Nat.ble (off + n) ds.length) with
        | false => rw [hb] at h; cases h
        | true =>
          rw [hb] at h
          simp only [Bool.and_eq_true] at hb
          have h1 : cs.length = n := Nat.eq_of_beq_eq_true hb.1
          have h2 : off + n ≤ ds.length := Nat.le_of_ble_eq_true hb.2
          subst h1
          simp only [cond_true, Option.some.injEq, Prod.mk.injEq] at h
          obtain ⟨rfl, rfl⟩ := h
          have hb : b' = b := hp.1
          subst hb
          refine ⟨id, fun x y' => x = .any ∧ y' = .box b' T (ds.take off ++ cs ++ ds.drop (off + cs.length)), ?_, ?_⟩
          · refine MutOK.up ?_
            intro D w ac Q K' hD hops hbx hnd hcont
            have hva := arg_of hops a (by simp [Op.operands])
            have hvx := arg_of hops x (by simp [Op.operands])
            rw [ha] at hva
            generalize hav : ac.eval a = va at hva
            cases hva
            generalize hxv : ac.eval x = vx at hvx
            have hrep := cellsA_ok hx hvx
            obtain ⟨vs, g1, g2, g3, g4⟩ := hbx id _ hy
            have hrow : w.heap[b']? = some (.cells vs T (0, 0)) := g1
            have hst := run_storeCells_at P b' off T vx.cells.toList 0 vs w hrow (by simp [hrep.1, g2]; omega) (fun v hv => by
              obtain ⟨j, hj⟩ := List.mem_iff_getElem?.1 hv
              exact hrep.2.1 j v (by simpa using hj))
            simp only [Nat.add_zero] at hst
            unfold Oper.wp
            have hrun : (execOp ac.eval ⟨dst, .store t a x, type, pos, after, guard⟩).run P w = .ok .skip (w.setRow b' (vs.toList.take off ++ vx.cells.toList ++ vs.toList.drop (off + vx.cells.toList.length)).toArray) := by
              obtain ⟨W1, hW1⟩ : ∃ W1, W1 = w.setRow b' (vs.toList.take off ++ vx.cells.toList ++ vs.toList.drop (off + vx.cells.toList.length)).toArray := ⟨_, rfl⟩
              rw [← hW1] at hst ⊢
              simp [execOp, hav, hxv, Instr.storeAt, Instr.sureAddr, storeVar, szP_run hn, hrep.1, hst]
            rw [hrun, Oper.upon_skip]
            have hbox := setRow_heap w b' vs (vs.toList.take off ++ vx.cells.toList ++ vs.toList.drop (off + vx.cells.toList.length)).toArray T (0, 0) hrow
            have hlv : vx.cells.toList.length = cs.length := by simpa using hrep.1
            have hfr : ∀ a u, Ra D w a u → Ra D (w.setRow b' (vs.toList.take off ++ vx.cells.toList ++ vs.toList.drop (off + vx.cells.toList.length)).toArray) a u := fun a u hu =>
              hu.frame (fun _ h => h) (by simp) (fun b hd hl => setRow_other _ _ _ _ (fun e => hnd _ b' hy rfl (e ▸ hd)))
            refine hcont undef _ .any _ _ ⟨rfl, rfl⟩ hy ⟨rfl, rfl, rfl, by simp, fun k hk => by omega⟩ (fun k hk _ => setRow_other _ _ _ _ (fun e => hk (by rw [e]; rfl))) (fun g hg => ⟨.inl hg, hnd _ g hy hg⟩) ⟨_, hbox, ?_, ?_, ?_⟩ (.any _)
            · simp [hlv, g2]
            · intro j v hv
              rw [List.getElem?_toArray, List.append_assoc] at hv
              by_cases hj : j < (vs.toList.take off).length
              · rw [List.getElem?_append_left hj, List.getElem?_take] at hv
                split at hv
                · exact g3 j v (by simpa using hv)
                · cases hv
              · rw [List.getElem?_append_right (by omega)] at hv
                by_cases hj2 : j - (vs.toList.take off).length < vx.cells.toList.length
                · rw [List.getElem?_append_left hj2] at hv
                  exact hrep.2.1 _ v (by simpa using hv)
                · rw [List.getElem?_append_right (by omega), List.getElem?_drop] at hv
                  exact g3 _ v (by simpa using hv)
            · intro j u v hu hv
              refine hfr u v ?_
              have hlo : (vs.toList.take off).length = off := by rw [List.length_take, Array.length_toList, g2]; omega
              have hlo2 : (ds.take off).length = off := by rw [List.length_take]; omega
              rw [List.getElem?_toArray, List.append_assoc] at hv
              skip
              rw [List.append_assoc] at hu
              by_cases hj : j < off
              · rw [List.getElem?_append_left (by omega), List.getElem?_take, if_pos hj] at hv
                rw [List.getElem?_append_left (by omega), List.getElem?_take, if_pos hj] at hu
                exact g4 j u v hu (by simpa using hv)
              · rw [List.getElem?_append_right (by omega), hlo] at hv
                rw [List.getElem?_append_right (by omega), hlo2] at hu
                by_cases hj2 : j - off < cs.length
                · rw [List.getElem?_append_left (by omega)] at hv
                  rw [List.getElem?_append_left (by omega)] at hu
                  exact hrep.2.2 _ u v hu (by simpa using hv)
                · rw [List.getElem?_append_right (by omega), List.getElem?_drop, hlv] at hv
                  rw [List.getElem?_append_right (by omega), List.getElem?_drop] at hu
                  exact g4 _ u v hu (by simpa using hv)
          · rintro z y' ⟨rfl, rfl⟩
            rw [LS.fs_put, LS.fs_setB]
            exact hk
      · cases h
    · cases h
  case buildSlice t n parts =>
    left
    refine ⟨rfl, ?_⟩
    split at h
    · rename_i e he
      split at h
      · rename_i k z qs hks hz hqs
        cases hb : (Nat.beq z.length k && (Nat.ble 1 k && Nat.ble (n * k) 16777216)) with
        | false => rw [hb] at h; cases h
        | true =>
          rw [hb] at h
          simp only [Bool.and_eq_true] at hb
          have h1 : z.length = k := Nat.eq_of_beq_eq_true hb.1
          have h2 : 1 ≤ k := Nat.le_of_ble_eq_true hb.2.1
          have h3 : n * k ≤ 16777216 := Nat.le_of_ble_eq_true hb.2.2
          simp only [cond_true] at h
          split at h
          · rename_i cs hcs
            obtain ⟨rfl, rfl⟩ := by simpa using h
            refine ⟨fun x nb => x = .sl k true (chunks k cs n) ∧ nb = none, ?_, ?_⟩
            · intro D w ac Q K' hD hops hbx hcont
              obtain ⟨it, zv, hi2, hzv, hrep⟩ := zeroA_ok (D := D) (w := w) hz
              have hzs : zv.cells.size = k := by rw [hrep.1, h1]
              obtain ⟨g1, g2⟩ := cellsAll_ok (D := D) (w := w) _ qs (parts.map fun (i, x) => (i, ac.eval x)).toList hqs (by simp) (fun j p v hp hv => by
                simp only [List.getElem?_map, Array.getElem?_toList] at hp
                simp only [Array.getElem?_toList, Array.getElem?_map] at hv
                cases hq : parts[j]? with
                | none => rw [hq] at hp; cases hp
                | some q =>
                  rw [hq] at hp hv
                  obtain rfl := Option.some.inj hp
                  obtain rfl := Option.some.inj hv
                  refine ⟨rfl, arg_of hops q.2 ?_⟩
                  simp only [Op.operands, List.mem_toArray, List.mem_map, Array.mem_toList_iff]
                  exact ⟨q, Array.mem_of_getElem? hq, rfl⟩)
              have hz0 := repC_zeros hrep n
              obtain ⟨vs', f1, f2⟩ := fill_ok (D := D) (w := w) (pf := fun i => some (i * k, k)) (fun i p hp => by
                simp only [List.getElem?_map] at hp
                cases hr : (List.range n)[i]? with
                | none => rw [hr] at hp; cases hp
                | some m =>
                  rw [hr] at hp
                  obtain rfl := Option.some.inj hp
                  obtain ⟨h1, h2⟩ := List.getElem?_eq_some_iff.1 hr
                  simp at h2
                  rw [h2]) qs _ _ _ cs hz0 g1 g2 hcs
              have hlen : cs.length = n * k := by
                rw [afill_length qs _ cs hcs]
                simp [h1]
              have hrun : (execOp ac.eval ⟨dst, .buildSlice t n parts, type, pos, after, guard⟩).run P w = .ok (.value (.slice (some ⟨w.heap.size, 0, none⟩) n n)) (w.alloc (.cells vs' e)) := by
                have hn : ¬ (n * k > 2 ^ 24) := by omega
                by_cases h0 : n * k = 0
                · have hn0 : n = 0 := by
                    rcases Nat.mul_eq_zero.1 h0 with h | h
                    · exact h
                    · omega
                  subst hn0
                  simp at f1
                  simp [execOp, Instr.buildSlice, run_underlying (elemP_u he), szP_run hks, show Array.range 0 = #[] from rfl, f1, newRow]
                · have f1' : Instr.fill (fun i => some (i * k, k)) ((Array.range (n * k)).map (fun x => zv.cells[x % zv.cells.size]!)) (parts.map fun (i, x) => (i, ac.eval x)).toList = some vs' := by
                    rw [← f1]
                    congr 1
                    have := zeros_eq zv.cells n (by omega)
                    rw [← this]
                    simp only [hzs]
                  simp [execOp, Instr.buildSlice, run_underlying (elemP_u he), szP_run hks, hn, h0, zeroValue, typeInfo, hi2, hzv]
                  simp at f1'
                  try simp [f1', newRow]
              unfold Oper.wp
              rw [hrun, Oper.upon_value]
              have hbb : Below w.heap.size w (w.alloc (.cells vs' e)) := (Below.refl _ _).alloc (Nat.le_refl _) _
              have hsz : (w.alloc (.cells vs' e)).heap.size = w.heap.size + 1 := by simp
              refine hcont _ _ _ _ _ ⟨rfl, rfl⟩ hbb (fun b h => .inl h) (fun b h => ?_) (sl_new (TBox.new w e vs') hbb f2 hD hlen) (fun id y h => by cases h)
              rcases h with h | h
              · exact ⟨by have := hD b h; omega, .inl h⟩
              · exact ⟨by omega, .inr (by omega)⟩
            · rintro x nb ⟨rfl, rfl⟩
              refine ⟨fun id y h => (by cases h), ?_⟩
              simp only [FS.addB]
              rw [LS.fs_put]
              exact hk
          · cases h
      · cases h
    · cases h
theorem stp_ok {P : Program} {ops : Array Oper} {i : Nat} {s s' : LS} {ps : List Prop} {K : FS → Prop} (h : stp P ops s i = some (ps, s')) (hp : allP ps) (hk : K s'.fs) : StepR P ops i s.fs K := by
  unfold stp at h
  split at h
  · rename_i o ho
    split at h
    · rename_i hg
      obtain ⟨rfl, rfl⟩ := by simpa using h
      exact ⟨o, ho, .inl ⟨hg, by rw [LS.fs_put]; exact hk⟩⟩
    · rename_i hg
      split at h
      · rename_i ps' x hx
        obtain ⟨rfl, rfl⟩ := by simpa using h
        exact ⟨o, ho, .inr ⟨hg, .inl ⟨x, evO_ok hx hp, by rw [LS.fs_put]; exact hk⟩⟩⟩
      · exact stO_ok ho hg h hp hk
    · cases h
  · cases h
theorem seq_run {P : Program} {ops : Array Oper} {K : FS → Prop} {r : List Nat} : ∀ (is : List Nat) {s s' : LS} {ps : List Prop}, runD P ops is s = some (ps, s') → allP ps → SeqR P ops K r s'.fs → SeqR P ops K (is ++ r) s.fs
  | [], s, s', ps, h, hp, hk => by
    obtain ⟨rfl, rfl⟩ := by simpa [runD] using h
    exact hk
  | i :: is, s, s', ps, h, hp, hk => by
    simp only [runD] at h
    split at h
    · rename_i ps1 s1 h1
      split at h
      · rename_i qs s2 h2
        obtain ⟨rfl, rfl⟩ := by simpa using h
        obtain ⟨p1, p2⟩ := allP_append hp
        exact stp_ok h1 p1 (seq_run is h2 p2 hk)
      · cases h
    · cases h
end Copyhold

set_option linter.unusedVariables false
namespace Copyhold
open Go Go.RowKit
def opAt (ops : Array Oper) (s : LS) (i : Nat) : Option Oper :=
  match ops[i]? with
  | some o =>
    match gd ops s.fs o with
    | some true => some o
    | _ => none
  | none => none
theorem opAt_ok {ops : Array Oper} {s : LS} {i : Nat} {o : Oper} (h : opAt ops s i = some o) : ops[i]? = some o ∧ gd ops s.fs o = some true := by
  unfold opAt at h
  split at h
  · rename_i o' ho
    split at h
    · rename_i hg
      obtain rfl := Option.some.inj h
      exact ⟨ho, hg⟩
    · cases h
  · cases h
def newO (P : Program) (ops : Array Oper) (s : LS) (i : Nat) : Option (Nat → LS) :=
  match opAt ops s i with
  | some o =>
    match o.dst, o.op with
    | some d, .alloc e =>
      match zeroA P e, bget s.bx d with
      | some cs, none => some fun b => (s.put (some d) (.ptr d b 0)).setB d (.box b e cs)
      | _, _ => none
    | some d, .box e x =>
      match cellsA (s.ev x), bget s.bx d with
      | some cs, none => some fun b => (s.put (some d) (.ptr d b 0)).setB d (.box b e cs)
      | _, _ => none
    | _, _ => none
  | none => none
theorem boxR_new {D : Nat → Prop} {w : World} {e : TypeId} {cs : List AV} {vs : Array Value} (h : RepC D w cs vs) : BoxR D (w.alloc (.cells vs e)) (.box w.heap.size e cs) :=
  ⟨vs, TBox.new w e vs, h.1, h.2.1, fun j a v ha hv => (h.2.2 j a v ha hv).frame (fun _ h => h) (by simp) (fun b hd hl => Below.heap_alloc w _ b hl)⟩
theorem mono_new {P : Program} {o : Oper} {s : LS} {d : Nat} {e : TypeId} {cs : List AV} (hd : o.dst = some d)
    (h : ∀ (D : Nat → Prop) (w : World) (ρ : Operand → Value), opsR D w s.fs ρ o → ∃ vs, RepC D w cs vs ∧ (execOp ρ o).run P w = .ok (.value (.pointer (some ⟨w.heap.size, 0, none⟩))) (w.alloc (.cells vs e))) :
    MonoOK P o s.fs (fun x nb => ∃ b, x = .ptr d b 0 ∧ nb = some (d, .box b e cs)) := by
  intro D w a Q K hD hops hbx hcont
  obtain ⟨vs, h1, h2⟩ := h D w a.eval hops
  unfold Oper.wp
  rw [h2, Oper.upon_value]
  have hb : Below w.heap.size w (w.alloc (.cells vs e)) := (Below.refl _ _).alloc (Nat.le_refl _) _
  refine hcont _ _ _ _ D ⟨w.heap.size, rfl, rfl⟩ hb (fun _ h => h) (fun b h => ⟨Nat.lt_of_lt_of_le (hD b h) hb.size, .inl h⟩) (.ptr _ _ _) (fun id y hy => ?_)
  obtain ⟨rfl, rfl⟩ := by simpa using hy
  refine ⟨fun g hg => ?_, boxR_new h1⟩
  obtain rfl := Option.some.inj hg
  exact ⟨Nat.le_refl _, fun hd => by have := hD _ hd; omega⟩
theorem seq_new {P : Program} {ops : Array Oper} {K : FS → Prop} {r : List Nat} {i : Nat} {s : LS} {f : Nat → LS} (h : newO P ops s i = some f) (k : ∀ b, SeqR P ops K r (f b).fs) : SeqR P ops K (i :: r) s.fs := by
  unfold newO at h
  split at h
  · rename_i o ho
    obtain ⟨hi, hg⟩ := opAt_ok ho
    refine ⟨o, hi, .inr ⟨hg, .inr (.inl ?_)⟩⟩
    split at h
    · rename_i d e hd hop
      split at h
      · rename_i cs hz hn
        obtain rfl := Option.some.inj h
        refine ⟨by rw [hop]; rfl, _, mono_new (e := e) (cs := cs) hd (fun D w ρ hops => ?_), ?_⟩
        · obtain ⟨it, z, h1, h2, h3⟩ := zeroA_ok (D := D) (w := w) hz
          exact ⟨z.cells, h3, by simp [execOp, hop, Instr.alloc, zeroValue, typeInfo, h1, h2, newVar, newRow]⟩
        · rintro x nb ⟨b, rfl, rfl⟩
          refine ⟨fun id y hy => ?_, ?_⟩
          · obtain ⟨rfl, rfl⟩ := by simpa using hy
            exact hn
          · have := k b
            rw [← LS.fs_setB, ← LS.fs_put] at this
            rw [hd]
            exact this
      · cases h
    · rename_i d e x hd hop
      split at h
      · rename_i cs hz hn
        obtain rfl := Option.some.inj h
        refine ⟨by rw [hop]; rfl, _, mono_new (e := e) (cs := cs) hd (fun D w ρ hops => ?_), ?_⟩
        · have hv := arg_of hops x (by simp [hop, Op.operands])
          exact ⟨_, cellsA_ok hz hv, by simp [execOp, hop, Instr.box, newVar, newRow]⟩
        · rintro y nb ⟨b, rfl, rfl⟩
          refine ⟨fun id y hy => ?_, ?_⟩
          · obtain ⟨rfl, rfl⟩ := by simpa using hy
            exact hn
          · have := k b
            rw [← LS.fs_setB, ← LS.fs_put] at this
            rw [hd]
            exact this
      · cases h
    · cases h
  · cases h
def SubAll : List AV → List AV → Prop
  | [], [] => True
  | x :: xs, y :: ys => Sub x y ∧ SubAll xs ys
  | _, _ => False
theorem SubAll.ok : ∀ {xs ys : List AV}, SubAll xs ys → xs.length = ys.length ∧ ∀ (j : Nat) (x y : AV), xs[j]? = some x → ys[j]? = some y → Sub x y
  | [], [], _ => ⟨rfl, fun j x y h => by simp at h⟩
  | x :: xs, y :: ys, h => by
    obtain ⟨h1, h2⟩ := h
    obtain ⟨h3, h4⟩ := SubAll.ok h2
    refine ⟨by simp [h3], fun j a b ha hb => ?_⟩
    cases j with
    | zero => simp at ha hb; subst ha hb; exact h1
    | succ j => exact h4 j a b (by simpa using ha) (by simpa using hb)
  | [], _ :: _, h => h.elim
  | _ :: _, [], h => h.elim
def callO (ops : Array Oper) (s : LS) (i : Nat) : Option (FuncId × List AV × Option Tmp) :=
  match opAt ops s i with
  | some o =>
    match o.op with
    | .call c =>
      match c.callee with
      | .value f =>
        match s.ev f with
        | .val (.func (.func g) ⟨[]⟩ ⟨[]⟩) => some (g, c.args.toList.map s.ev, o.dst)
        | .clo g caps => some (g, c.args.toList.map s.ev ++ caps, o.dst)
        | _ => none
      | _ => none
    | _ => none
  | none => none
theorem call_mono {P : Program} {s : LS} {o : Oper} {c : Call} {fo : Operand} {g : FuncId} {args args' : List AV} {r : AV} (hop : o.op = .call c) (hc : c.callee = .value fo)
    (heg : ∀ vs w, (callFunc g vs).run P w = .ok (.enter g vs) w) (hsub : SubAll args args') (hsp : FSpec P g args' r)
    (hrun : ∀ (D : Nat → Prop) (w : World) (ρ : Operand → Value), opsR D w s.fs ρ o → ∃ vs, (execOp ρ o).run P w = (callFunc g vs).run P w ∧ RaAll D w args vs) :
    MonoOK P o s.fs (fun x nb => x = r ∧ nb = none) := by
  intro D w a Q K' hD hops hbx hcont
  obtain ⟨hl, hsa⟩ := hsub.ok
  obtain ⟨vs, h1, h2⟩ := hrun D w a.eval hops
  have hra : RaAll D w args' vs := by
    refine ⟨by rw [← hl]; exact h2.1, fun j x v hx hv => ?_⟩
    have hj : j < args.length := by have := (List.getElem?_eq_some_iff.1 hx).1; omega
    exact hsa j args[j] x (List.getElem?_eq_getElem hj) hx D w v (h2.2 j args[j] v (List.getElem?_eq_getElem hj) hv)
  unfold Oper.wp
  rw [h1, heg, Oper.upon_enter]
  refine (hsp D w _ hD hra).mono ?_
  rintro e w' ⟨v, D', rfl, h1, h2, h3, h4⟩
  exact hcont v w' r none D' ⟨rfl, rfl⟩ h1 h2 h3 h4 (fun id y h => by cases h)
theorem args_ra {D : Nat → Prop} {w : World} {s : LS} {ρ : Operand → Value} {o : Oper} {c : Call} (hop : o.op = .call c) (hops : opsR D w s.fs ρ o) : RaAll D w (c.args.toList.map s.ev) (c.args.map ρ) := by
  refine ⟨by simp, fun j x v hx hv => ?_⟩
  simp only [Array.getElem?_map] at hv
  cases hq : c.args[j]? with
  | none => rw [hq] at hv; cases hv
  | some y =>
    rw [hq] at hv
    obtain rfl := Option.some.inj hv
    simp only [List.getElem?_map, Array.getElem?_toList, hq, Option.map_some] at hx
    obtain rfl := Option.some.inj hx
    refine arg_of hops y ?_
    have := Array.mem_of_getElem? hq
    simp [hop, Op.operands, Call.operands, this]
theorem seq_call {P : Program} {ops : Array Oper} {K : FS → Prop} {rest : List Nat} {i : Nat} {s s' : LS} {f : FuncId} {args args' : List AV} {d : Option Tmp} {r : AV} (h : callO ops s i = some (f, args, d))
    (heg : ∀ vs w, (callFunc f vs).run P w = .ok (.enter f vs) w) (hsub : SubAll args args') (hsp : FSpec P f args' r) (hs : s.put d r = s') (k : SeqR P ops K rest s'.fs) : SeqR P ops K (i :: rest) s.fs := by
  subst hs
  unfold callO at h
  split at h
  · rename_i o ho
    obtain ⟨hi, hg⟩ := opAt_ok ho
    split at h
    · rename_i c hop
      split at h
      · rename_i fo hc
        have hrd : isRd P o.op = false := by
          obtain ⟨callee, cargs, cts⟩ := c
          simp only at hc
          subst hc
          rw [hop]; rfl
        split at h
        · rename_i g hf
          simp only [Option.some.injEq, Prod.mk.injEq] at h
          obtain ⟨rfl, rfl, rfl⟩ := h
          refine ⟨o, hi, .inr ⟨hg, .inr (.inl ⟨hrd, _, call_mono hop hc heg hsub hsp (fun D w ρ hops => ⟨c.args.map ρ, ?_, args_ra hop hops⟩), ?_⟩)⟩⟩
          · have hvf := arg_of hops fo (by simp [hop, Op.operands, Call.operands, hc])
            rw [hf] at hvf
            generalize hfv : ρ fo = vf at hvf
            cases hvf
            simp [execOp, hop, resolve, hc, hfv, Deferred.ofValue, invoke]
          · rintro x nb ⟨rfl, rfl⟩
            refine ⟨fun id y h => (by cases h), ?_⟩
            simp only [FS.addB]
            rw [LS.fs_put]
            exact k
        · rename_i g caps hf
          simp only [Option.some.injEq, Prod.mk.injEq] at h
          obtain ⟨rfl, rfl, rfl⟩ := h
          have hmono : ∀ (D : Nat → Prop) (w : World) (ρ : Operand → Value), opsR D w s.fs ρ o → ∃ vs, (execOp ρ o).run P w = (callFunc g vs).run P w ∧ RaAll D w (c.args.toList.map s.ev ++ caps) vs := fun D w ρ hops => by
            have hvf := arg_of hops fo (by simp [hop, Op.operands, Call.operands, hc])
            rw [hf] at hvf
            generalize hfv : ρ fo = vf at hvf
            cases hvf with
            | clo g caps vs h1 h2 =>
              obtain ⟨a1, a2⟩ := args_ra hop hops
              refine ⟨c.args.map ρ ++ vs, by simp [execOp, hop, resolve, hc, hfv, Deferred.ofValue, invoke], by simp; omega, fun j x v hx hv => ?_⟩
              by_cases hj : j < (c.args.map ρ).size
              · rw [Array.getElem?_append_left hj] at hv
                rw [List.getElem?_append_left (by omega)] at hx
                exact a2 j x v hx hv
              · rw [Array.getElem?_append_right (by omega)] at hv
                rw [List.getElem?_append_right (by omega), a1] at hx
                exact h2 _ x v hx hv
          refine ⟨o, hi, .inr ⟨hg, .inr (.inl ⟨hrd, _, call_mono hop hc heg hsub hsp hmono, ?_⟩)⟩⟩
          rintro x nb ⟨rfl, rfl⟩
          refine ⟨fun id y h => (by cases h), ?_⟩
          simp only [FS.addB]
          rw [LS.fs_put]
          exact k
        · cases h
      · cases h
    · cases h
  · cases h
def idxO (P : Program) (ops : Array Oper) (s : LS) (i : Nat) : Option (List (List AV) × Int × Option Tmp) :=
  match opAt ops s i with
  | some o =>
    match o.op with
    | .indexAddr t x n =>
      match elemP P t, s.ev x, s.ev n with
      | some e, .sl k _ xs, .val (.int .i64 m) =>
        match szP P e with
        | some k' => bif Nat.beq k k' then some (xs, m, o.dst) else none
        | none => none
      | _, _, _ => none
    | _ => none
  | none => none
theorem seq_idx {P : Program} {ops : Array Oper} {K : FS → Prop} {rest : List Nat} {i : Nat} {s s' : LS} {xs : List (List AV)} {m : Int} {d : Option Tmp} {e : List AV} (j : Nat) (h : idxO P ops s i = some (xs, m, d))
    (hm : m = (j : Int)) (he : xs[j]? = some e) (hs : s.put d (.dptr e) = s') (k : SeqR P ops K rest s'.fs) : SeqR P ops K (i :: rest) s.fs := by
  subst hs
  unfold idxO at h
  split at h
  · rename_i o ho
    obtain ⟨hi, hg⟩ := opAt_ok ho
    split at h
    · rename_i t x n hop
      split at h
      · rename_i el kk tt xs' m' hel hx hn
        split at h
        · rename_i k' hk'
          cases hb : Nat.beq kk k' with
          | false => rw [hb] at h; cases h
          | true =>
            rw [hb] at h
            obtain ⟨rfl, rfl, rfl⟩ := by simpa using h
            obtain rfl := Nat.eq_of_beq_eq_true hb
            subst hm
            refine ⟨o, hi, .inr ⟨hg, .inl ⟨.dptr e, .inl fun D w ρ hops => ?_, by rw [LS.fs_put]; exact k⟩⟩⟩
            have hvx := arg_of hops x (by simp [hop, Op.operands])
            have hvn := arg_of hops n (by simp [hop, Op.operands])
            rw [hx] at hvx
            rw [hn] at hvn
            generalize hxv : ρ x = vx at hvx
            generalize hnv : ρ n = vn at hvn
            cases hvn
            cases hvx with
            | sl k t xs A c b off vs h1 h2 h3 h4 h5 h6 =>
              have hj : j < xs'.length := (List.getElem?_eq_some_iff.1 he).1
              obtain ⟨rfl, hDb, hb⟩ := h3 (by omega)
              refine ⟨.pointer (some ⟨b, off + j * kk, none⟩), ?_, .dptr e b _ (fun q => vs j q) hDb hb (fun q y hy => ?_) (fun q y hy => h6 j e q y he hy)⟩
              · have h0 : (0 : Int) ≤ j ∧ (j : Int) < xs'.length := by omega
                simp [execOp, hop, hxv, hnv, Instr.indexAt, asIntOf, run_underlying (elemP_u hel), szP_run hk', h0, hj, add_plain']
              · have := h5 j e q y he hy
                rw [Nat.add_assoc]
                exact this
        · cases h
      · cases h
    · cases h
  · cases h
def leT (s : LS) : List (Nat × AV) → Prop
  | [] => True
  | (t, x) :: r => Sub (lget s.tm t) x ∧ leT s r
def leB (s : LS) : List (Nat × Bx) → Prop
  | [] => True
  | (id, y) :: r => (∃ z, bget s.bx id = some z ∧ SubB z y) ∧ leB s r
theorem leT_ok {s : LS} : ∀ {l : List (Nat × AV)}, leT s l → ∀ t, Sub (lget s.tm t) (lget l t)
  | [], _, t => Sub.any _
  | (k, x) :: r, h, t => by
    simp only [lget]
    cases hb : Nat.beq k t with
    | false => exact leT_ok h.2 t
    | true =>
      obtain rfl := Nat.eq_of_beq_eq_true hb
      exact h.1
theorem leB_ok {s : LS} : ∀ {l : List (Nat × Bx)}, leB s l → ∀ id y, bget l id = some y → ∃ z, bget s.bx id = some z ∧ SubB z y
  | [], _, id, y, h => by cases h
  | (k, x) :: r, h, id, y, hy => by
    simp only [bget] at hy
    cases hb : Nat.beq k id with
    | false =>
      rw [hb] at hy
      exact leB_ok h.2 id y hy
    | true =>
      rw [hb] at hy
      obtain rfl := Nat.eq_of_beq_eq_true hb
      obtain rfl := Option.some.inj hy
      exact h.1
theorem LS.le {s s' : LS} (h1 : leT s s'.tm) (h2 : leB s s'.bx) : s.fs.le' s'.fs := ⟨leT_ok h1, leB_ok h2⟩
def Fin (P : Program) (F : Func) (r : AV) (e : Exit) (s : FS) : Prop := (e = .normal ∨ e = .ret) ∧ DoneR P F r s
theorem spec_enter {P : Program} {f : FuncId} {F : Func} {code : Code} {args : List AV} {r : AV} (s : LS) (hf : P.funcs[f]? = some F) (hb : F.body = some code) (hsz : (decide (args.length ≤ F.ntmps)) = true)
    (hn : (F.results.toList.all fun rv => decide ((match rv with | .tmp t => t | .cell t _ => t) < F.ntmps)) = true) (hs : s.bx = []) (ht : ∀ t, lget s.tm t = args.getD t .any)
    (h : ∀ c : Cx, c.n = F.ntmps → AWp c P code (Fin P F r) s.fs) : FSpec P f args r := by
  refine spec_of hf hb (of_decide_eq_true hsz) hn fun c hc => ?_
  have e : s.fs = ⟨fun t => args.getD t .any, fun _ => none⟩ := by
    unfold LS.fs
    rw [hs]
    simp only [FS.mk.injEq]
    exact ⟨funext ht, funext fun _ => rfl⟩
  rw [← e]
  exact h c hc
theorem awp_if {c : Cx} {P : Program} {Q : Exit → FS → Prop} {s : LS} {x y : Code} {t : Nat} {b : Bool} (v : Bool) (hn : t < c.n) (hs : lget s.tm t = .val (.bool b)) (hb : b = v) (h : AWp c P (if v then x else y) Q s.fs) : AWp c P (.cond (.tmp t) x y) Q s.fs :=
  awp_cond (b := v) (fun t' e => by cases e; exact hn) (by show lget s.tm t = _; rw [hs, hb]) h
theorem seq_bool {P : Program} {ops : Array Oper} {K : FS → Prop} {r : List Nat} {s s' : LS} (t : Nat) {b v : Bool} (hb : b = v) (hs : lget s.tm t = .val (.bool b)) (he : s.put (some t) (.val (.bool v)) = s') (k : SeqR P ops K r s'.fs) : SeqR P ops K r s.fs := by
  subst he hb
  have : (s.put (some t) (.val (.bool b))).fs = s.fs := by
    rw [← LS.fs_put]
    simp only [FS.put, LS.fs, FS.mk.injEq, and_true]
    funext u
    split
    · rename_i e
      rw [e, hs]
    · rfl
  rw [← this]
  exact k
theorem seq_val {P : Program} {ops : Array Oper} {K : FS → Prop} {r : List Nat} {s s' : LS} (t : Nat) {x y : AV} (h : x = y) (hs : lget s.tm t = x) (he : s.put (some t) y = s') (k : SeqR P ops K r s'.fs) : SeqR P ops K r s.fs := by
  subst he h
  have : (s.put (some t) x).fs = s.fs := by
    rw [← LS.fs_put]
    simp only [FS.put, LS.fs, FS.mk.injEq, and_true]
    funext u
    split
    · rename_i e
      rw [e, hs]
    · rfl
  rw [← this]
  exact k
theorem awp_bool {c : Cx} {P : Program} {Q : Exit → FS → Prop} {code : Code} {s s' : LS} (t : Nat) {b v : Bool} (hb : b = v) (hs : lget s.tm t = .val (.bool b)) (he : s.put (some t) (.val (.bool v)) = s') (k : AWp c P code Q s'.fs) : AWp c P code Q s.fs := by
  subst he hb
  have : (s.put (some t) (.val (.bool b))).fs = s.fs := by
    rw [← LS.fs_put]
    simp only [FS.put, LS.fs, FS.mk.injEq, and_true]
    funext u
    split
    · rename_i e
      rw [e, hs]
    · rfl
  rw [← this]
  exact k
theorem Sub.of_eq {x y : AV} (h : x = y) : Sub x y := h ▸ Sub.refl x
theorem rng64 {z : Int} (h1 : -9223372036854775808 ≤ z) (h2 : z ≤ 9223372036854775807) : rng .i64 z := ⟨h1, h2⟩
theorem Sub.aggs {cs ds : List AV} (h : SubAll cs ds) : Sub (.agg cs) (.agg ds) := Sub.agg h.ok.1 h.ok.2
theorem Sub.tups {cs ds : List AV} (h : SubAll cs ds) : Sub (.tup cs) (.tup ds) := fun D w v hv => by
  obtain ⟨hl, hs⟩ := h.ok
  cases hv with
  | tup cs vs h1 h2 =>
    refine .tup ds vs (by omega) (fun j y v hy hv => ?_)
    have hj : j < cs.length := by have := (List.getElem?_eq_some_iff.1 hy).1; omega
    exact hs j cs[j] y (List.getElem?_eq_getElem hj) hy D w v (h2 j cs[j] v (List.getElem?_eq_getElem hj) hv)
theorem awp_rounds {c : Cx} {P : Program} {Q : Exit → FS → Prop} {x : Code} {s : FS} {α : Type} (st : α → LS) (μ : α → Nat) (H : α → Prop) (a0 : α) (h0 : s.le' (st a0).fs) (hH : H a0)
    (round : ∀ a, H a → AWp c P x (thenQ (fun s' => ∃ b, H b ∧ μ b < μ a ∧ s'.le' (st b).fs) Q) (st a).fs) : AWp c P (.loop x) Q s := by
  refine awp_loop (fun n s => ∃ a, H a ∧ μ a = n ∧ s.le' (st a).fs) (n0 := μ a0) ⟨a0, hH, rfl, h0⟩ fun n s ⟨a, ha, hn, hle⟩ => ?_
  refine AWp.weaken hle ((round a ha).mono fun e s' q => ?_)
  cases e with
  | normal =>
    obtain ⟨b, hb, hm, hl⟩ := q
    exact ⟨μ b, by omega, b, hb, rfl, hl⟩
  | _ => exact q
theorem some_of {α : Type} {l : List α} {k : Nat} (h : k < l.length) : ∃ x, l[k]? = some x := ⟨_, List.getElem?_eq_getElem h⟩
theorem map_some {α β : Type} {f : α → β} {l : List α} {k : Nat} {x : α} (h : l[k]? = some x) : (l.map f)[k]? = some (f x) := by rw [List.getElem?_map, h]; rfl
abbrev aI (z : Int) : AV := .val (.int .i64 z)
abbrev aS (l : List UInt8) : AV := .val (.string ⟨⟨l⟩⟩)
abbrev aB (b : Bool) : AV := .val (.bool b)
abbrev aN : AV := .val (.slice none 0 0)
end Copyhold
