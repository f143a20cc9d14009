/- Abstract states as lists, and what an operation makes of one, computed: operations that only look and compute. Over any program. No conditions beyond each law's own. -/
import Derived.Test.YtpdedjbkfcaebaaAbs3
set_option linter.unusedVariables false
namespace Copyhold
open Go Go.RowKit
structure LS where
  tm : List (Nat × AV)
  bx : List (Nat × Bx)
def lget : List (Nat × AV) → Nat → AV
  | [], _ => .any
  | (k, x) :: r, t => bif Nat.beq k t then x else lget r t
def bget : List (Nat × Bx) → Nat → Option Bx
  | [], _ => none
  | (k, x) :: r, t => bif Nat.beq k t then some x else bget r t
def lput : List (Nat × AV) → Nat → AV → List (Nat × AV)
  | [], t, x => [(t, x)]
  | (k, y) :: r, t, x => bif Nat.beq k t then (k, x) :: r else (k, y) :: lput r t x
def bput : List (Nat × Bx) → Nat → Bx → List (Nat × Bx)
  | [], t, x => [(t, x)]
  | (k, y) :: r, t, x => bif Nat.beq k t then (k, x) :: r else (k, y) :: bput r t x
def LS.fs (s : LS) : FS := ⟨lget s.tm, bget s.bx⟩
def LS.put (s : LS) (d : Option Tmp) (x : AV) : LS :=
  match d with
  | some d => { s with tm := lput s.tm d x }
  | none => s
def LS.setB (s : LS) (id : Nat) (y : Bx) : LS := { s with bx := bput s.bx id y }
def LS.ev (s : LS) : Operand → AV
  | .tmp t => lget s.tm t
  | .const v => .val v
  | .global g => .val (.pointer (some ⟨g, 0, none⟩))
  | .func f => .val (.func (.func f) #[] #[])
theorem nbeq {a b : Nat} (h : a ≠ b) : Nat.beq a b = false := by
  cases hb : Nat.beq a b
  · rfl
  · exact absurd (Nat.eq_of_beq_eq_true hb) h
theorem LS.fs_ev (s : LS) (y : Operand) : s.fs.ev y = s.ev y := by cases y <;> rfl
theorem lget_lput (l : List (Nat × AV)) (t : Nat) (x : AV) (u : Nat) : lget (lput l t x) u = if u = t then x else lget l u := by
  induction l with
  | nil =>
    simp only [lput, lget]
    by_cases h : u = t
    · simp [h]
    · have : Nat.beq t u = false := nbeq fun e => h e.symm
      simp [h, this]
  | cons p r ih =>
    obtain ⟨k, y⟩ := p
    simp only [lput]
    by_cases hk : k = t
    · subst hk
      simp only [Nat.beq_refl, cond_true, lget]
      by_cases h : u = k
      · simp [h]
      · have : Nat.beq k u = false := nbeq fun e => h e.symm
        simp [h, this]
    · have : Nat.beq k t = false := nbeq hk
      simp only [this, cond_false, lget, ih]
      by_cases hu : k = u
      · subst hu
        simp [hk]
      · have : Nat.beq k u = false := nbeq hu
        simp [this]
theorem bget_bput (l : List (Nat × Bx)) (t : Nat) (x : Bx) (u : Nat) : bget (bput l t x) u = if u = t then some x else bget l u := by
  induction l with
  | nil =>
    simp only [bput, bget]
    by_cases h : u = t
    · simp [h]
    · have : Nat.beq t u = false := nbeq fun e => h e.symm
      simp [h, this]
  | cons p r ih =>
    obtain ⟨k, y⟩ := p
    simp only [bput]
    by_cases hk : k = t
    · subst hk
      simp only [Nat.beq_refl, cond_true, bget]
      by_cases h : u = k
      · simp [h]
      · have : Nat.beq k u = false := nbeq fun e => h e.symm
        simp [h, this]
    · have : Nat.beq k t = false := nbeq hk
      simp only [this, cond_false, bget, ih]
      by_cases hu : k = u
      · subst hu
        simp [hk]
      · have : Nat.beq k u = false := nbeq hu
        simp [this]
theorem LS.fs_put (s : LS) (d : Option Tmp) (x : AV) : s.fs.put d x = (s.put d x).fs := by
  cases d with
  | none => rfl
  | some d =>
    simp only [LS.fs, FS.put, LS.put, FS.mk.injEq, and_true]
    funext t
    rw [lget_lput]
theorem LS.fs_setB (s : LS) (id : Nat) (y : Bx) : s.fs.setB id (some y) = (s.setB id y).fs := by
  simp only [LS.fs, FS.setB, LS.setB, FS.mk.injEq, true_and]
  funext t
  rw [bget_bput]
def isAggP (P : Program) (t : TypeId) : Option Bool :=
  match P.underlying t with
  | some (.struct _) | some (.array _ _) => some true
  | some _ => some false
  | none => none
def szP (P : Program) (t : TypeId) : Option Nat :=
  match P.info? t with
  | some i => some i.size
  | none => none
def fldP (P : Program) (st : TypeId) (f : Nat) : Option (Nat × TypeId) :=
  match P.underlying st with
  | some (.struct fs) =>
    match fs[f]? with
    | some fd =>
      match szP P fd.type with
      | some (_ + 1) => some (fd.offset, fd.type)
      | _ => none
    | none => none
  | _ => none
def elemP (P : Program) (t : TypeId) : Option TypeId :=
  match P.underlying t with
  | some (.slice e) => some e
  | _ => none
theorem isAggP_run {P : Program} {t : TypeId} {b : Bool} (h : isAggP P t = some b) (w : World) : (isAgg t).run P w = .ok b w := by
  unfold isAggP at h
  split at h
  · rename_i fs hu
    obtain rfl := Option.some.inj h
    simp [isAgg, run_underlying hu]
  · rename_i n e hu
    obtain rfl := Option.some.inj h
    simp [isAgg, run_underlying hu]
  · rename_i d hns hna hu
    obtain rfl := Option.some.inj h
    simp only [isAgg, Sem.run_bind, run_underlying hu, Result.andThen_ok]
    cases d <;> first | rfl | (exact (hns _ rfl).elim) | (exact (hna _ rfl).elim) | (exact (hns _ _ rfl).elim) | (exact (hna _ _ rfl).elim)
  · cases h
theorem szP_run {P : Program} {t : TypeId} {n : Nat} (h : szP P t = some n) (w : World) : (Go.sizeOf t).run P w = .ok n w := by
  unfold szP at h
  split at h
  · rename_i i hi
    obtain rfl := Option.some.inj h
    simp [Go.sizeOf, typeInfo, hi]
  · cases h
def cellsA : AV → Option (List AV)
  | .agg cs => some cs
  | .val (.agg vs) => bif vs.toList.all (·.oneCell') then some (vs.toList.map .val) else none
  | .val v => bif v.oneCell' then some [.val v] else none
  | .any | .tup _ => none
  | x => some [x]
theorem cellsA_ok {D : Nat → Prop} {w : World} {x : AV} {cs : List AV} {v : Value} (h : cellsA x = some cs) (hv : Ra D w x v) :
    v.cells.size = cs.length ∧ (∀ (j : Nat) (u : Value), v.cells[j]? = some u → u.oneCell' = true) ∧ ∀ (j : Nat) (a : AV) (u : Value), cs[j]? = some a → v.cells[j]? = some u → Ra D w a u := by
  have one : ∀ (u : Value) (a : AV), u.oneCell' = true → u.cells = #[u] → Ra D w a u → u.cells.size = [a].length ∧ (∀ (j : Nat) (z : Value), u.cells[j]? = some z → z.oneCell' = true) ∧ ∀ (j : Nat) (b : AV) (z : Value), [a][j]? = some b → u.cells[j]? = some z → Ra D w b z := by
    intro u a h1 h2 h3
    rw [h2]
    refine ⟨rfl, fun j z hz => ?_, fun j b z hb hz => ?_⟩
    · cases j with
      | zero => simp at hz; subst hz; exact h1
      | succ j => simp at hz
    · cases j with
      | zero => simp at hz hb; subst hz hb; exact h3
      | succ j => simp at hz
  cases hv with
  | agg cs' vs h1 h2 h3 =>
    simp only [cellsA, Option.some.injEq] at h
    subst h
    exact ⟨h1.symm, h2, h3⟩
  | val v =>
    cases v with
    | agg vs =>
      simp only [cellsA] at h
      cases ha : vs.toList.all (·.oneCell') with
      | false => rw [ha] at h; cases h
      | true =>
        rw [ha] at h
        obtain rfl := Option.some.inj h
        refine ⟨by simp [Value.cells], fun j u hu => ?_, fun j a u ha hu => ?_⟩
        · exact List.all_eq_true.1 ha u (by have := Array.mem_of_getElem? hu; simpa [Value.cells] using this)
        · simp only [List.getElem?_map, Array.getElem?_toList] at ha
          simp only [Value.cells] at hu
          rw [hu] at ha
          obtain rfl := Option.some.inj ha
          exact .val u
    | tuple vs => simp [cellsA, Value.oneCell'] at h
    | _ =>
      simp only [cellsA, Value.oneCell', cond_true, Option.some.injEq] at h
      subst h
      exact one _ _ rfl rfl (.val _)
  | any v => cases h
  | tup l vs h1 h2 => cases h
  | sl k t xs A c b off vs h1 h2 h3 h4 h5 h6 =>
    simp only [cellsA, Option.some.injEq] at h
    subst h
    exact one _ _ rfl rfl (.sl k t xs A c b off vs h1 h2 h3 h4 h5 h6)
  | dptr cs' b off vs h1 h2 h3 h4 =>
    simp only [cellsA, Option.some.injEq] at h
    subst h
    exact one _ _ rfl rfl (.dptr cs' b off vs h1 h2 h3 h4)
  | ptr id b off =>
    simp only [cellsA, Option.some.injEq] at h
    subst h
    exact one _ _ rfl rfl (.ptr id b off)
  | rw id n c A =>
    simp only [cellsA, Option.some.injEq] at h
    subst h
    exact one _ _ rfl rfl (.rw id n c A)
  | clo f caps vs h1 h2 =>
    simp only [cellsA, Option.some.injEq] at h
    subst h
    exact one _ _ rfl rfl (.clo f caps vs h1 h2)
  | mp es r es' clock h1 h2 h3 h4 h5 h6 =>
    simp only [cellsA, Option.some.injEq] at h
    subst h
    exact one _ _ rfl rfl (.mp es r es' clock h1 h2 h3 h4 h5 h6)
  | mref id r =>
    simp only [cellsA, Option.some.injEq] at h
    subst h
    exact one _ _ rfl rfl (.mref id r)
  | ep id b n cap k i off =>
    simp only [cellsA, Option.some.injEq] at h
    subst h
    exact one _ _ rfl rfl (.ep id b n cap k i off)
def partA (P : Program) (t : TypeId) (cs : List AV) : Option AV :=
  match isAggP P t with
  | some true =>
    match szP P t with
    | some n => bif Nat.ble n cs.length then some (.agg (cs.take n)) else none
    | none => none
  | some false => cs.head?
  | none => none
def CellsAt (D : Nat → Prop) (w : World) (b off : Nat) (cs : List AV) : Prop := ∀ (j : Nat) (x : AV), cs[j]? = some x → ∃ v, w.cell? ⟨b, off + j, none⟩ = some v ∧ v.oneCell' = true ∧ Ra D w x v
theorem CellsAt.drop {D : Nat → Prop} {w : World} {b off : Nat} {cs : List AV} (h : CellsAt D w b off cs) (k : Nat) : CellsAt D w b (off + k) (cs.drop k) := fun j x hx => by
  rw [List.getElem?_drop] at hx
  obtain ⟨v, h1, h2, h3⟩ := h (k + j) x hx
  exact ⟨v, by rw [Nat.add_assoc]; exact h1, h2, h3⟩
theorem CellsAt.values {D : Nat → Prop} {w : World} {b off : Nat} : ∀ {cs : List AV}, CellsAt D w b off cs → ∃ vs : List Value, vs.length = cs.length ∧ (∀ (j : Nat) (v : Value), vs[j]? = some v → w.cell? ⟨b, off + j, none⟩ = some v ∧ v.oneCell' = true) ∧ ∀ (j : Nat) (x : AV) (v : Value), cs[j]? = some x → vs[j]? = some v → Ra D w x v
  | [], _ => ⟨[], rfl, fun j v h => by simp at h, fun j x v h => by simp at h⟩
  | x :: cs, h => by
    obtain ⟨v, h1, h2, h3⟩ := h 0 x rfl
    obtain ⟨vs, g1, g2, g3⟩ := CellsAt.values (cs := cs) (off := off + 1) (fun j y hy => by
      obtain ⟨u, a1, a2, a3⟩ := h (j + 1) y (by simpa using hy)
      exact ⟨u, by rw [show off + 1 + j = off + (j + 1) from by omega]; exact a1, a2, a3⟩)
    refine ⟨v :: vs, by simp [g1], fun j u hu => ?_, fun j y u hy hu => ?_⟩
    · cases j with
      | zero => simp at hu; subst hu; exact ⟨h1, h2⟩
      | succ j =>
        have := g2 j u (by simpa using hu)
        rw [show off + 1 + j = off + (j + 1) from by omega] at this
        exact this
    · cases j with
      | zero => simp at hu hy; subst hu hy; exact h3
      | succ j => exact g3 j y u (by simpa using hy) (by simpa using hu)
theorem load_part {D : Nat → Prop} {P : Program} {w : World} {t : TypeId} {b off : Nat} {cs : List AV} {x : AV} (h : CellsAt D w b off cs) (hx : partA P t cs = some x) : ∃ v, (loadVar t ⟨b, off, none⟩).run P w = .ok v w ∧ Ra D w x v := by
  unfold partA at hx
  split at hx
  · rename_i ha
    split at hx
    · rename_i n hn
      cases hb : Nat.ble n cs.length with
      | false => rw [hb] at hx; cases hx
      | true =>
        rw [hb] at hx
        obtain rfl := Option.some.inj hx
        have hle := Nat.le_of_ble_eq_true hb
        obtain ⟨vs, h1, h2, h3⟩ := h.values
        have hl := run_loadCells_list (P := P) (w := w) ⟨b, off, none⟩ (vs.take n) (fun j v hv => by
          rw [add_plain']
          rw [List.getElem?_take] at hv
          split at hv
          · exact (h2 j v hv).1
          · cases hv)
        have hlen : (vs.take n).length = n := by rw [List.length_take]; omega
        rw [hlen] at hl
        refine ⟨.agg (vs.take n).toArray, ?_, .agg _ _ (by simp; omega) (fun j v hv => ?_) (fun j x v hx hv => ?_)⟩
        · simp [loadVar, isAggP_run ha, szP_run hn, hl]
        · rw [List.getElem?_toArray, List.getElem?_take] at hv
          split at hv
          · exact (h2 j v hv).2
          · cases hv
        · rw [List.getElem?_toArray, List.getElem?_take] at hv
          rw [List.getElem?_take] at hx
          split at hv
          · rename_i hj
            rw [if_pos hj] at hx
            exact h3 j x v hx hv
          · cases hv
    · cases hx
  · rename_i ha
    rw [List.head?_eq_getElem?] at hx
    obtain ⟨v, h1, h2, h3⟩ := h 0 x hx
    exact ⟨v, by simpa [loadVar, isAggP_run ha] using (show (load ⟨b, off, none⟩).run P w = .ok v w from by
      rw [Nat.add_zero] at h1
      simp [h1]), h3⟩
  · cases hx
theorem BoxR.cells {D : Nat → Prop} {w : World} {b : Nat} {T : TypeId} {cs : List AV} (h : BoxR D w (.box b T cs)) : CellsAt D w b 0 cs := fun j x hx => by
  obtain ⟨vs, h1, h2, h3, h4⟩ := h
  have hj : j < vs.size := by have := (List.getElem?_eq_some_iff.1 hx).1; omega
  exact ⟨vs[j], by rw [Nat.zero_add, h1.cell]; simp [hj], h3 j vs[j] (by simp [hj]), h4 j x vs[j] hx (by simp [hj])⟩
def rng : IntKind → Int → Prop
  | .i64, n => -9223372036854775808 ≤ n ∧ n ≤ 9223372036854775807
  | .u64, n => 0 ≤ n ∧ n ≤ 18446744073709551615
  | .i32, n => -2147483648 ≤ n ∧ n ≤ 2147483647
  | .u32, n => 0 ≤ n ∧ n ≤ 4294967295
  | .i16, n => -32768 ≤ n ∧ n ≤ 32767
  | .u16, n => 0 ≤ n ∧ n ≤ 65535
  | .i8, n => -128 ≤ n ∧ n ≤ 127
  | .u8, n => 0 ≤ n ∧ n ≤ 255
theorem rng_wrap {k : IntKind} {n : Int} (h : rng k n) : k.wrap n = n := by
  cases k <;> simp only [rng] at h <;> simp only [IntKind.wrap, IntKind.bits, IntKind.signed, Bool.false_and, Bool.true_and, decide_eq_true_eq, ge_iff_le, Bool.false_eq_true, if_false] <;> (try split) <;> omega
def binA (P : Program) (op : BinOp) (t : TypeId) (x y : AV) : Option (List Prop × AV) :=
  match op, x, y with
  | .add, .val (.int .i64 a), .val (.int .i64 b) => some ([rng .i64 (a + b)], .val (.int .i64 (a + b)))
  | .sub, .val (.int .i64 a), .val (.int .i64 b) => some ([rng .i64 (a - b)], .val (.int .i64 (a - b)))
  | .mul, .val (.int .i64 a), .val (.int .i64 b) => some ([rng .i64 (a * b)], .val (.int .i64 (a * b)))
  | .eql, .val (.int .i64 a), .val (.int .i64 b) => some ([], .val (.bool (a == b)))
  | .neq, .val (.int .i64 a), .val (.int .i64 b) => some ([], .val (.bool (a != b)))
  | .lss, .val (.int .i64 a), .val (.int .i64 b) => some ([], .val (.bool (decide (a < b))))
  | .leq, .val (.int .i64 a), .val (.int .i64 b) => some ([], .val (.bool (decide (a ≤ b))))
  | .gtr, .val (.int .i64 a), .val (.int .i64 b) => some ([], .val (.bool (decide (a > b))))
  | .geq, .val (.int .i64 a), .val (.int .i64 b) => some ([], .val (.bool (decide (a ≥ b))))
  | .eql, .val (.string ⟨⟨a⟩⟩), .val (.string ⟨⟨b⟩⟩) => some ([], .val (.bool (a == b)))
  | .neq, .val (.string ⟨⟨a⟩⟩), .val (.string ⟨⟨b⟩⟩) => some ([], .val (.bool (!(a == b))))
  | .lss, .val (.string ⟨⟨a⟩⟩), .val (.string ⟨⟨b⟩⟩) => some ([], .val (.bool (Op.bytesLess a b)))
  | .add, .val (.string ⟨⟨a⟩⟩), .val (.string ⟨⟨b⟩⟩) => some ([a.length + b.length ≤ 9223372036854775807], .val (.string ⟨⟨a ++ b⟩⟩))
  | .eql, .val (.bool a), .val (.bool b) => match P.underlying t with
    | some .bool => some ([], .val (.bool (a == b)))
    | _ => none
  | .neq, .val (.bool a), .val (.bool b) => match P.underlying t with
    | some .bool => some ([], .val (.bool (!(a == b))))
    | _ => none
  | _, _, _ => none
theorem run_equal_bool {P : Program} {w : World} {t : TypeId} (a b : Bool) (h : P.underlying t = some .bool) : (Op.equal t (.bool a) (.bool b)).run P w = .ok (a == b) w := by
  unfold Op.equal
  rw [show Op.maxDepth = 9999 + 1 from rfl, Op.equalIn]
  simp [run_underlying h]
theorem binA_ok {P : Program} {op : BinOp} {t : TypeId} {x y : AV} {ps : List Prop} {z : AV} (h : binA P op t x y = some (ps, z)) (hp : allP ps) {D : Nat → Prop} {w : World} {u v : Value} (hu : Ra D w x u) (hv : Ra D w y v) (xo yo : Operand) :
    ∃ r, ((do Go.eqGuard op t xo yo u v; Go.binOp op t u v) : Sem Value).run P w = .ok r w ∧ Ra D w z r := by
  unfold binA at h
  split at h <;> (try cases h) <;> cases hu <;> cases hv
  · exact ⟨_, by simp [eqGuard, binOp, Op.intArith, rng_wrap hp.1], .val _⟩
  · exact ⟨_, by simp [eqGuard, binOp, Op.intArith, rng_wrap hp.1], .val _⟩
  · exact ⟨_, by simp [eqGuard, binOp, Op.intArith, rng_wrap hp.1], .val _⟩
  · exact ⟨_, by simp [eqGuard, binOp, Op.intCmp], .val _⟩
  · exact ⟨_, by simp [eqGuard, binOp, Op.intCmp], .val _⟩
  · exact ⟨_, by simp [eqGuard, binOp, Op.intCmp], .val _⟩
  · exact ⟨_, by simp [eqGuard, binOp, Op.intCmp], .val _⟩
  · exact ⟨_, by simp [eqGuard, binOp, Op.intCmp], .val _⟩
  · exact ⟨_, by simp [eqGuard, binOp, Op.intCmp], .val _⟩
  · exact ⟨_, by simp [eqGuard, binOp, Op.stringOp], .val _⟩
  · exact ⟨_, by simp [eqGuard, binOp, Op.stringOp], .val _⟩
  · exact ⟨_, by simp [eqGuard, binOp, Op.stringOp], .val _⟩
  · rename_i a b
    exact ⟨_, by
      have : ¬ (9223372036854775807 < ((a.length : Int) + b.length)) := by have := hp.1; omega
      simp [eqGuard, binOp, Op.stringOp, IntKind.max, IntKind.bits, IntKind.signed, ByteArray.size, this]
      first | rfl | exact cat a b, .val _⟩
  · split at h
    · rename_i ht
      cases h
      exact ⟨_, by simp [eqGuard, binOp, run_equal_bool _ _ ht], .val _⟩
    · cases h
  · split at h
    · rename_i ht
      cases h
      exact ⟨_, by simp [eqGuard, binOp, run_equal_bool _ _ ht], .val _⟩
    · cases h
end Copyhold
