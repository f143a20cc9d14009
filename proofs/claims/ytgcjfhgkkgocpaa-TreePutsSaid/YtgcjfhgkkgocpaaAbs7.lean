/- Steps of a region over abstract states, as lists: runs of operations that are computed, new boxes, slices' literals, calls. Over any program. No conditions beyond each law's own. -/
import Derived.Test.YtgcjfhgkkgocpaaAbs6
import Derived.Test.YtgcjfhgkkgocpaaStoreBox
set_option linter.unusedVariables false
namespace Copyhold
open Go Go.RowKit
def chunks (k : Nat) (cs : List AV) (n : Nat) : List (List AV) := (List.range n).map fun i => (cs.drop (i * k)).take k
def stO (P : Program) (s : LS) (o : Oper) : Option (List Prop × LS) :=
  match o.op with
  | .store t a x =>
    match s.ev a, cellsA (s.ev x), szP P t with
    | .ptr id b off, some cs, some n =>
      match bget s.bx id with
      | some (.box b' T ds) => bif Nat.beq cs.length n && Nat.ble (off + n) ds.length then some ([b' = b], (s.put o.dst .any).setB id (.box b' T (ds.take off ++ cs ++ ds.drop (off + cs.length)))) else none
      | _ => none
    | _, _, _ => none
  | .buildSlice t n parts =>
    match elemP P t with
    | some e =>
      match szP P e, zeroA P e, cellsAll (parts.toList.map fun p => (p.1, s.ev p.2)) with
      | some k, some z, some qs =>
        bif Nat.beq z.length k && (Nat.ble 1 k && Nat.ble (n * k) 16777216) then
          match afill ((List.range n).map fun j => (j * k, k)) (List.flatten (List.replicate n z)) qs with
          | some cs => some ([], s.put o.dst (.sl k true (chunks k cs n)))
          | none => none
        else none
      | _, _, _ => none
    | none => none
  | _ => none
def stp (P : Program) (ops : Array Oper) (s : LS) (i : Nat) : Option (List Prop × LS) :=
  match ops[i]? with
  | some o =>
    match gd ops s.fs o with
    | some false => some ([], s.put o.dst (.val undef))
    | some true =>
      match evO P s o.op with
      | some (ps, x) => some (ps, s.put o.dst x)
      | none => stO P s o
    | none => none
  | none => none
def runD (P : Program) (ops : Array Oper) : List Nat → LS → Option (List Prop × LS)
  | [], s => some ([], s)
  | i :: r, s =>
    match stp P ops s i with
    | some (ps, s') =>
      match runD P ops r s' with
      | some (qs, s'') => some (ps ++ qs, s'')
      | none => none
    | none => none
theorem elemP_u {P : Program} {t e : TypeId} (h : elemP P t = some e) : P.underlying t = some (.slice e) := by
  unfold elemP at h
  split at h
  · rename_i e' hu
    rw [hu, Option.some.inj h]
  · cases h
theorem zeros_eq (z : Array Value) (n : Nat) (hz : 0 < z.size) : ((Array.range (n * z.size)).map (fun x => z[x % z.size]!)).toList = (List.replicate n z.toList).flatten := by
  induction n with
  | zero => simp
  | succ n ih =>
    rw [List.replicate_succ', List.flatten_append]
    rw [← ih]
    apply List.ext_getElem?
    intro j
    by_cases hj : j < n * z.size
    · rw [List.getElem?_append_left (by simpa using hj)]
      have : j < (n + 1) * z.size := by rw [Nat.succ_mul]; omega
      simp [hj, this]
    · have hlen : (((Array.range (n * z.size)).map (fun x => z[x % z.size]!)).toList).length = n * z.size := by simp
      rw [List.getElem?_append_right (by omega), hlen]
      by_cases hj2 : j < (n + 1) * z.size
      · have hm : j % z.size = j - n * z.size := by
          have e : j = (j - n * z.size) + z.size * n := by rw [Nat.mul_comm z.size n]; omega
          have hlt : j - n * z.size < z.size := by rw [Nat.succ_mul] at hj2; omega
          conv => lhs; rw [e]
          rw [Nat.add_mul_mod_self_left, Nat.mod_eq_of_lt hlt]
        have hlt : j - n * z.size < z.size := by rw [Nat.succ_mul] at hj2; omega
        simp [hj2, hm, hlt]
      · have h1 : ¬ j - n * z.size < z.size := by rw [Nat.succ_mul] at hj2; omega
        simp [hj2]
        omega
theorem repC_zeros {D : Nat → Prop} {w : World} {z : List AV} {zv : Array Value} (h : RepC D w z zv) : ∀ n, RepC D w (List.replicate n z).flatten (List.replicate n zv.toList).flatten.toArray
  | 0 => ⟨by simp, fun j u hu => by simp at hu, fun j a u ha => by simp at ha⟩
  | n + 1 => by
    obtain ⟨h1, h2, h3⟩ := repC_zeros h n
    have hl : z.length = zv.toList.length := by simpa using h.1.symm
    have h1' : (List.replicate n z).flatten.length = (List.replicate n zv.toList).flatten.length := by simpa using h1.symm
    simp only [List.replicate_succ, List.flatten_cons]
    refine ⟨by simp [h.1], fun j u hu => ?_, fun j a u ha hu => ?_⟩
    · rw [List.getElem?_toArray] at hu
      by_cases hj : j < zv.toList.length
      · rw [List.getElem?_append_left hj] at hu
        exact h.2.1 j u (by simpa using hu)
      · rw [List.getElem?_append_right (by omega)] at hu
        exact h2 _ u (by rw [List.getElem?_toArray]; exact hu)
    · rw [List.getElem?_toArray] at hu
      by_cases hj : j < zv.toList.length
      · rw [List.getElem?_append_left hj] at hu
        rw [List.getElem?_append_left (by omega)] at ha
        exact h.2.2 j a u ha (by simpa using hu)
      · rw [List.getElem?_append_right (by omega)] at hu
        rw [List.getElem?_append_right (by omega), hl] at ha
        exact h3 _ a u ha (by rw [List.getElem?_toArray]; exact hu)
theorem sl_new {D : Nat → Prop} {w w' : World} {T : TypeId} {k n : Nat} {cs : List AV} {vs : Array Value} (hB : TBox w' w.heap.size T vs) (hb : Below w.heap.size w w') (h : RepC D w cs vs) (hD : ∀ b, D b → b < w.heap.size) (hl : cs.length = n * k) :
    Ra (fun b => D b ∨ b = w.heap.size) w' (.sl k true (chunks k cs n)) (.slice (some ⟨w.heap.size, 0, none⟩) n n) := by
  have hlen : (chunks k cs n).length = n := by simp [chunks]
  have hget : ∀ (i : Nat) (e : List AV), (chunks k cs n)[i]? = some e → i < n ∧ e = (cs.drop (i * k)).take k := fun i e he => by
    have hi : i < n := by have := (List.getElem?_eq_some_iff.1 he).1; omega
    simp [chunks, hi] at he
    exact ⟨hi, he.symm⟩
  have hin : ∀ i j, i < n → j < k → i * k + j < n * k := fun i j hi hj => by
    have : (i + 1) * k ≤ n * k := Nat.mul_le_mul_right k hi
    rw [Nat.succ_mul] at this
    omega
  have hcell : ∀ (i : Nat) (e : List AV) (j : Nat) (x : AV), (chunks k cs n)[i]? = some e → e[j]? = some x → i < n ∧ j < k ∧ cs[i * k + j]? = some x := fun i e j x he hx => by
    obtain ⟨hi, rfl⟩ := hget i e he
    rw [List.getElem?_take] at hx
    split at hx
    · rename_i hj
      rw [List.getElem?_drop] at hx
      exact ⟨hi, hj, hx⟩
    · cases hx
  have key := Ra.sl (D := fun b => D b ∨ b = w.heap.size) (w := w') k true (chunks k cs n) (some ⟨w.heap.size, 0, none⟩) (chunks k cs n).length w.heap.size 0 (fun i j => vs.getD (i * k + j) undef)
    (Nat.le_refl _) (fun _ => rfl) (fun _ => ⟨rfl, .inr rfl, hB.lt⟩) (fun i e he => by
      obtain ⟨hi, rfl⟩ := hget i e he
      rw [List.length_take, List.length_drop, hl]
      have : (i + 1) * k ≤ n * k := Nat.mul_le_mul_right k hi
      rw [Nat.succ_mul] at this
      omega)
    (fun i e j x he hx => by
      obtain ⟨hi, hj, hc⟩ := hcell i e j x he hx
      have hlt : i * k + j < vs.size := by rw [h.1, hl]; exact hin i j hi hj
      have hv : vs[i * k + j]? = some vs[i * k + j] := by simp [hlt]
      rw [Nat.zero_add, hB.cell]
      simp only [Array.getD_eq_getD_getElem?, hv, Option.getD_some]
      exact ⟨trivial, h.2.1 _ _ hv⟩)
    (fun i e j x he hx => by
      obtain ⟨hi, hj, hc⟩ := hcell i e j x he hx
      have hlt : i * k + j < vs.size := by rw [h.1, hl]; exact hin i j hi hj
      have hv : vs[i * k + j]? = some vs[i * k + j] := by simp [hlt]
      simp only [Array.getD_eq_getD_getElem?, hv, Option.getD_some]
      exact (h.2.2 _ x _ hc hv).frame (fun b h => .inl h) hb.size (fun b hd hlt => hb.block b hlt))
  rw [hlen] at key
  exact key
theorem afill_length {pl : List (Nat × Nat)} : ∀ (qs : List (Nat × List AV)) (cs cs' : List AV), afill pl cs qs = some cs' → cs'.length = cs.length
  | [], cs, cs', h => by
    simp only [afill, Option.some.injEq] at h
    rw [h]
  | (i, xs) :: qs, cs, cs', h => by
    simp only [afill] at h
    split at h
    · rename_i off sz hp
      cases hb : (Nat.beq xs.length sz && Nat.ble (off + sz) cs.length) with
      | false => rw [hb] at h; cases h
      | true =>
        rw [hb] at h
        simp only [Bool.and_eq_true] at hb
        have h1 : xs.length = sz := Nat.eq_of_beq_eq_true hb.1
        have h2 : off + sz ≤ cs.length := Nat.le_of_ble_eq_true hb.2
        rw [afill_length qs _ cs' h]
        simp
        omega
    · cases h
theorem arg_of {D : Nat → Prop} {w : World} {s : LS} {ρ : Operand → Value} {o : Oper} (ho : opsR D w s.fs ρ o) (y : Operand) (hy : y ∈ o.op.operands) : Ra D w (s.ev y) (ρ y) := by
  have := ho y hy
  rwa [LS.fs_ev] at this
theorem stO_ok {P : Program} {ops : Array Oper} {i : Nat} {s s' : LS} {o : Oper} {ps : List Prop} {K : FS → Prop} (hi : ops[i]? = some o) (hg : gd ops s.fs o = some true) (h : stO P s o = some (ps, s')) (hp : allP ps) (hk : K s'.fs) : StepR P ops i s.fs K := by
  refine ⟨o, hi, .inr ⟨hg, .inr ?_⟩⟩
  obtain ⟨dst, op, type, pos, after, guard⟩ := o
  cases op <;> simp only [stO] at h <;> (try (cases h; done))
  case store t a x =>
    right
    refine ⟨rfl, rfl, ?_⟩
    split at h
    · rename_i id b off cs n ha hx hn
      split at h
      · rename_i b' T ds hy
        cases hb : (Nat.beq cs.length n && Nat.ble (off + n) ds.length) with
        | false => rw [hb] at h; cases h
        | true =>
          rw [hb] at h
          simp only [Bool.and_eq_true] at hb
          have h1 : cs.length = n := Nat.eq_of_beq_eq_true hb.1
          have h2 : off + n ≤ ds.length := Nat.le_of_ble_eq_true hb.2
          subst h1
          simp only [cond_true, Option.some.injEq, Prod.mk.injEq] at h
          obtain ⟨rfl, rfl⟩ := h
          have hb : b' = b := hp.1
          subst hb
          refine ⟨id, fun x y' => x = .any ∧ y' = .box b' T (ds.take off ++ cs ++ ds.drop (off + cs.length)), ?_, ?_⟩
          · refine MutOK.up ?_
            intro D w ac Q K' hD hops hbx hnd hcont
            have hva := arg_of hops a (by simp [Op.operands])
            have hvx := arg_of hops x (by simp [Op.operands])
            rw [ha] at hva
            generalize hav : ac.eval a = va at hva
            cases hva
            generalize hxv : ac.eval x = vx at hvx
            have hrep := cellsA_ok hx hvx
            obtain ⟨vs, g1, g2, g3, g4⟩ := hbx id _ hy
            have hrow : w.heap[b']? = some (.cells vs T (0, 0)) := g1
            have hst := run_storeCells_at P b' off T vx.cells.toList 0 vs w hrow (by simp [hrep.1, g2]; omega) (fun v hv => by
              obtain ⟨j, hj⟩ := List.mem_iff_getElem?.1 hv
              exact hrep.2.1 j v (by simpa using hj))
            simp only [Nat.add_zero] at hst
            unfold Oper.wp
            have hrun : (execOp ac.eval ⟨dst, .store t a x, type, pos, after, guard⟩).run P w = .ok .skip (w.setRow b' (vs.toList.take off ++ vx.cells.toList ++ vs.toList.drop (off + vx.cells.toList.length)).toArray) := by
              obtain ⟨W1, hW1⟩ : ∃ W1, W1 = w.setRow b' (vs.toList.take off ++ vx.cells.toList ++ vs.toList.drop (off + vx.cells.toList.length)).toArray := ⟨_, rfl⟩
              rw [← hW1] at hst ⊢
              simp [execOp, hav, hxv, Instr.storeAt, Instr.sureAddr, storeVar, szP_run hn, hrep.1, hst]
            rw [hrun, Oper.upon_skip]
            have hbox := setRow_heap w b' vs (vs.toList.take off ++ vx.cells.toList ++ vs.toList.drop (off + vx.cells.toList.length)).toArray T (0, 0) hrow
            have hlv : vx.cells.toList.length = cs.length := by simpa using hrep.1
            have hfr : ∀ a u, Ra D w a u → Ra D (w.setRow b' (vs.toList.take off ++ vx.cells.toList ++ vs.toList.drop (off + vx.cells.toList.length)).toArray) a u := fun a u hu =>
              hu.frame (fun _ h => h) (by simp) (fun b hd hl => setRow_other _ _ _ _ (fun e => hnd _ b' hy rfl (e ▸ hd)))
            refine hcont undef _ .any _ _ ⟨rfl, rfl⟩ hy ⟨rfl, rfl, rfl, by simp, fun k hk => by omega⟩ (fun k hk _ => setRow_other _ _ _ _ (fun e => hk (by rw [e]; rfl))) (fun g hg => ⟨.inl hg, hnd _ g hy hg⟩) ⟨_, hbox, ?_, ?_, ?_⟩ (.any _)
            · simp [hlv, g2]
            · intro j v hv
              rw [List.getElem?_toArray, List.append_assoc] at hv
              by_cases hj : j < (vs.toList.take off).length
              · rw [List.getElem?_append_left hj, List.getElem?_take] at hv
                split at hv
                · exact g3 j v (by simpa using hv)
                · cases hv
              · rw [List.getElem?_append_right (by omega)] at hv
                by_cases hj2 : j - (vs.toList.take off).length < vx.cells.toList.length
                · rw [List.getElem?_append_left hj2] at hv
                  exact hrep.2.1 _ v (by simpa using hv)
                · rw [List.getElem?_append_right (by omega), List.getElem?_drop] at hv
                  exact g3 _ v (by simpa using hv)
            · intro j u v hu hv
              refine hfr u v ?_
              have hlo : (vs.toList.take off).length = off := by rw [List.length_take, Array.length_toList, g2]; omega
              have hlo2 : (ds.take off).length = off := by rw [List.length_take]; omega
              rw [List.getElem?_toArray, List.append_assoc] at hv
              skip
              rw [List.append_assoc] at hu
              by_cases hj : j < off
              · rw [List.getElem?_append_left (by omega), List.getElem?_take, if_pos hj] at hv
                rw [List.getElem?_append_left (by omega), List.getElem?_take, if_pos hj] at hu
                exact g4 j u v hu (by simpa using hv)
              · rw [List.getElem?_append_right (by omega), hlo] at hv
                rw [List.getElem?_append_right (by omega), hlo2] at hu
                by_cases hj2 : j - off < cs.length
                · rw [List.getElem?_append_left (by omega)] at hv
                  rw [List.getElem?_append_left (by omega)] at hu
                  exact hrep.2.2 _ u v hu (by simpa using hv)
                · rw [List.getElem?_append_right (by omega), List.getElem?_drop, hlv] at hv
                  rw [List.getElem?_append_right (by omega), List.getElem?_drop] at hu
                  exact g4 _ u v hu (by simpa using hv)
          · rintro z y' ⟨rfl, rfl⟩
            rw [LS.fs_put, LS.fs_setB]
            exact hk
      · cases h
    · cases h
  case buildSlice t n parts =>
    left
    refine ⟨rfl, ?_⟩
    split at h
    · rename_i e he
      split at h
      · rename_i k z qs hks hz hqs
        cases hb : (Nat.beq z.length k && (Nat.ble 1 k && Nat.ble (n * k) 16777216)) with
        | false => rw [hb] at h; cases h
        | true =>
          rw [hb] at h
          simp only [Bool.and_eq_true] at hb
          have h1 : z.length = k := Nat.eq_of_beq_eq_true hb.1
          have h2 : 1 ≤ k := Nat.le_of_ble_eq_true hb.2.1
          have h3 : n * k ≤ 16777216 := Nat.le_of_ble_eq_true hb.2.2
          simp only [cond_true] at h
          split at h
          · rename_i cs hcs
            obtain ⟨rfl, rfl⟩ := by simpa using h
            refine ⟨fun x nb => x = .sl k true (chunks k cs n) ∧ nb = none, ?_, ?_⟩
            · intro D w ac Q K' hD hops hbx hcont
              obtain ⟨it, zv, hi2, hzv, hrep⟩ := zeroA_ok (D := D) (w := w) hz
              have hzs : zv.cells.size = k := by rw [hrep.1, h1]
              obtain ⟨g1, g2⟩ := cellsAll_ok (D := D) (w := w) _ qs (parts.map fun (i, x) => (i, ac.eval x)).toList hqs (by simp) (fun j p v hp hv => by
                simp only [List.getElem?_map, Array.getElem?_toList] at hp
                simp only [Array.getElem?_toList, Array.getElem?_map] at hv
                cases hq : parts[j]? with
                | none => rw [hq] at hp; cases hp
                | some q =>
                  rw [hq] at hp hv
                  obtain rfl := Option.some.inj hp
                  obtain rfl := Option.some.inj hv
                  refine ⟨rfl, arg_of hops q.2 ?_⟩
                  simp only [Op.operands, List.mem_toArray, List.mem_map, Array.mem_toList_iff]
                  exact ⟨q, Array.mem_of_getElem? hq, rfl⟩)
              have hz0 := repC_zeros hrep n
              obtain ⟨vs', f1, f2⟩ := fill_ok (D := D) (w := w) (pf := fun i => some (i * k, k)) (fun i p hp => by
                simp only [List.getElem?_map] at hp
                cases hr : (List.range n)[i]? with
                | none => rw [hr] at hp; cases hp
                | some m =>
                  rw [hr] at hp
                  obtain rfl := Option.some.inj hp
                  obtain ⟨h1, h2⟩ := List.getElem?_eq_some_iff.1 hr
                  simp at h2
                  rw [h2]) qs _ _ _ cs hz0 g1 g2 hcs
              have hlen : cs.length = n * k := by
                rw [afill_length qs _ cs hcs]
                simp [h1]
              have hrun : (execOp ac.eval ⟨dst, .buildSlice t n parts, type, pos, after, guard⟩).run P w = .ok (.value (.slice (some ⟨w.heap.size, 0, none⟩) n n)) (w.alloc (.cells vs' e)) := by
                have hn : ¬ (n * k > 2 ^ 24) := by omega
                by_cases h0 : n * k = 0
                · have hn0 : n = 0 := by
                    rcases Nat.mul_eq_zero.1 h0 with h | h
                    · exact h
                    · omega
                  subst hn0
                  simp at f1
                  simp [execOp, Instr.buildSlice, run_underlying (elemP_u he), szP_run hks, show Array.range 0 = #[] from rfl, f1, newRow]
                · have f1' : Instr.fill (fun i => some (i * k, k)) ((Array.range (n * k)).map (fun x => zv.cells[x % zv.cells.size]!)) (parts.map fun (i, x) => (i, ac.eval x)).toList = some vs' := by
                    rw [← f1]
                    congr 1
                    have := zeros_eq zv.cells n (by omega)
                    rw [← this]
                    simp only [hzs]
                  simp [execOp, Instr.buildSlice, run_underlying (elemP_u he), szP_run hks, hn, h0, zeroValue, typeInfo, hi2, hzv]
                  simp at f1'
                  try simp [f1', newRow]
              unfold Oper.wp
              rw [hrun, Oper.upon_value]
              have hbb : Below w.heap.size w (w.alloc (.cells vs' e)) := (Below.refl _ _).alloc (Nat.le_refl _) _
              have hsz : (w.alloc (.cells vs' e)).heap.size = w.heap.size + 1 := by simp
              refine hcont _ _ _ _ _ ⟨rfl, rfl⟩ hbb (fun b h => .inl h) (fun b h => ?_) (sl_new (TBox.new w e vs') hbb f2 hD hlen) (fun id y h => by cases h)
              rcases h with h | h
              · exact ⟨by have := hD b h; omega, .inl h⟩
              · exact ⟨by omega, .inr (by omega)⟩
            · rintro x nb ⟨rfl, rfl⟩
              refine ⟨fun id y h => (by cases h), ?_⟩
              simp only [FS.addB]
              rw [LS.fs_put]
              exact hk
          · cases h
      · cases h
    · cases h
theorem stp_ok {P : Program} {ops : Array Oper} {i : Nat} {s s' : LS} {ps : List Prop} {K : FS → Prop} (h : stp P ops s i = some (ps, s')) (hp : allP ps) (hk : K s'.fs) : StepR P ops i s.fs K := by
  unfold stp at h
  split at h
  · rename_i o ho
    split at h
    · rename_i hg
      obtain ⟨rfl, rfl⟩ := by simpa using h
      exact ⟨o, ho, .inl ⟨hg, by rw [LS.fs_put]; exact hk⟩⟩
    · rename_i hg
      split at h
      · rename_i ps' x hx
        obtain ⟨rfl, rfl⟩ := by simpa using h
        exact ⟨o, ho, .inr ⟨hg, .inl ⟨x, evO_ok hx hp, by rw [LS.fs_put]; exact hk⟩⟩⟩
      · exact stO_ok ho hg h hp hk
    · cases h
  · cases h
theorem seq_run {P : Program} {ops : Array Oper} {K : FS → Prop} {r : List Nat} : ∀ (is : List Nat) {s s' : LS} {ps : List Prop}, runD P ops is s = some (ps, s') → allP ps → SeqR P ops K r s'.fs → SeqR P ops K (is ++ r) s.fs
  | [], s, s', ps, h, hp, hk => by
    obtain ⟨rfl, rfl⟩ := by simpa [runD] using h
    exact hk
  | i :: is, s, s', ps, h, hp, hk => by
    simp only [runD] at h
    split at h
    · rename_i ps1 s1 h1
      split at h
      · rename_i qs s2 h2
        obtain ⟨rfl, rfl⟩ := by simpa using h
        obtain ⟨p1, p2⟩ := allP_append hp
        exact stp_ok h1 p1 (seq_run is h2 p2 hk)
      · cases h
    · cases h
end Copyhold
