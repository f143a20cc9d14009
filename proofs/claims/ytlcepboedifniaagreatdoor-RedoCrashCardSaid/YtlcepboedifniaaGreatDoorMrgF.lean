/- Parts of slices and texts, bytes of texts, appends of nothing, rows that are made; over any program. No conditions beyond each law's own. Steps found by program: slices held against nil, rows that are made; over any program. No conditions beyond each law's own. Maps over abstract states: made, filled, made data, looked up; over any program. No conditions beyond each law's own. -/
import Derived.Test.YtlcepboedifniaaGreatDoorMrgE
import Derived.Laws.MakeOwn
set_option linter.unusedVariables false
set_option linter.unusedSimpArgs false
namespace Copyhold
open Go Go.RowKit
def loOk (lo : Option Int) (a : Nat) : Prop := (lo = none ∧ a = 0) ∨ lo = some (a : Int)
def hiOk (hi : Option Int) (b n : Nat) : Prop := (hi = none ∧ b = n) ∨ hi = some (b : Int)
def mxOk (mx hi : Option Int) (b : Nat) (t t' : Bool) (n : Nat) : Prop := (mx = none ∧ (t' = true → t = true ∧ b = n)) ∨ (mx = some (b : Int) ∧ hi.isSome = true)
theorem slcO_ok {P : Program} {ops : Array Oper} {s : LS} {i : Nat} {x : AV} {l h m : Option Int} {d : Option Tmp} (hh : slcO P ops s i = some (x, l, h, m, d)) :
    ∃ o t y lo hi mx, ops[i]? = some o ∧ gd ops s.fs o = some true ∧ o.op = .slice t y lo hi mx ∧ x = s.ev y ∧ bndA s lo = some l ∧ bndA s hi = some h ∧ bndA s mx = some m ∧ d = o.dst ∧
      ((∃ k tt xs e, x = .sl k tt xs ∧ P.underlying t = some (.slice e) ∧ szP P e = some k) ∨ ∃ b, x = .val (.string b) ∧ P.underlying t = some .string) := by
  unfold slcO at hh
  split at hh
  · rename_i o ho
    obtain ⟨hi, hg⟩ := opAt_ok ho
    split at hh
    · rename_i t y lo hi' mx hop
      split at hh
      · rename_i l' h' m' h1 h2 h3
        split at hh
        · rename_i k tt xs e hx hu
          split at hh
          · rename_i k' hk'
            cases hb : Nat.beq k k' with
            | false => rw [hb] at hh; cases hh
            | true =>
              rw [hb] at hh
              obtain rfl := Nat.eq_of_beq_eq_true hb
              simp only [cond_true, Option.some.injEq, Prod.mk.injEq] at hh
              obtain ⟨rfl, rfl, rfl, rfl, rfl⟩ := hh
              exact ⟨o, t, y, lo, hi', mx, hi, hg, hop, hx.symm, h1, h2, h3, rfl, .inl ⟨k, tt, xs, e, rfl, hu, hk'⟩⟩
          · cases hh
        · rename_i b hx hu
          simp only [Option.some.injEq, Prod.mk.injEq] at hh
          obtain ⟨rfl, rfl, rfl, rfl, rfl⟩ := hh
          exact ⟨o, t, y, lo, hi', mx, hi, hg, hop, hx.symm, h1, h2, h3, rfl, .inr ⟨b, rfl, hu⟩⟩
        · cases hh
      · cases hh
    · cases hh
  · cases hh
def mxN (mx : Option Int) (c b : Nat) : Nat := if mx.isSome then b else c
theorem run_bounds (P : Program) (w : World) (isS : Bool) (n c a b : Nat) (lo hi mx : Option Int) (hlo : loOk lo a) (hhi : hiOk hi b n) (hmx : mx = none ∨ (mx = some (b : Int) ∧ hi.isSome = true)) (hab : a ≤ b) (hbn : b ≤ n) (hnc : n ≤ c) :
    (Instr.sliceBounds isS n c (lo.map fun z => .int .i64 z) (hi.map fun z => .int .i64 z) (mx.map fun z => .int .i64 z)).run P w = .ok (a, b, mxN mx c b) w := by
  have e0 : b ≤ c := by omega
  have e1 : (b : Int) ≤ (c : Int) := by omega
  have e2 : (a : Int) ≤ (b : Int) := by omega
  have e3 : (a : Int) ≤ (n : Int) := by omega
  rcases hlo with ⟨rfl, rfl⟩ | rfl <;> rcases hhi with ⟨rfl, rfl⟩ | rfl <;> rcases hmx with rfl | ⟨rfl, hs⟩ <;> (try (cases hs; done)) <;>
    simp [Instr.sliceBounds, Instr.sliceBound, asIntOf, mxN, e0, e1, e2, e3, hab, hbn]
theorem seq_slc {P : Program} {ops : Array Oper} {K : FS → Prop} {rest : List Nat} {i : Nat} {s s' : LS} {k : Nat} {tt : Bool} {xs : List (List AV)} {l h m : Option Int} {d : Option Tmp} (a b : Nat) (t' : Bool)
    (hh : slcO P ops s i = some (.sl k tt xs, l, h, m, d)) (hlo : loOk l a) (hhi : hiOk h b xs.length) (hmx : mxOk m h b tt t' xs.length) (hab : a ≤ b) (hbn : b ≤ xs.length)
    (hs : s.put d (.sl k t' ((xs.take b).drop a)) = s') (kk : SeqR P ops K rest s'.fs) : SeqR P ops K (i :: rest) s.fs := by
  subst hs
  obtain ⟨o, t, y, lo, hi, mx, hi2, hg, hop, hx, h1, h2, h3, rfl, hty⟩ := slcO_ok hh
  refine ⟨o, hi2, .inr ⟨hg, .inl ⟨.sl k t' ((xs.take b).drop a), .inl fun D w ρ hops => ?_, by rw [LS.fs_put]; exact kk⟩⟩⟩
  have hv := arg_of hops y (by simp [hop, Op.operands])
  rw [← hx] at hv
  have m1 := bndA_ok hops h1 (fun y e => by simp [hop, Op.operands, e])
  have m2 := bndA_ok hops h2 (fun y e => by simp [hop, Op.operands, e])
  have m3 := bndA_ok hops h3 (fun y e => by simp [hop, Op.operands, e])
  rcases hty with ⟨k', tt', xs', e, he, hu, hsz⟩ | ⟨bb, he, _⟩
  · simp only [AV.sl.injEq] at he
    obtain ⟨rfl, rfl, rfl⟩ := he
    generalize hvv : ρ y = v at hv
    cases hv with
    | sl k t xs A c bk off vs g1 g2 g3 g4 g5 g6 =>
      have hb := run_bounds P w true xs.length c a b l h m hlo hhi (by rcases hmx with h | h; exact .inl h.1; exact .inr h) hab hbn g1
      have hlen : ((xs.take b).drop a).length = b - a := by simp; omega
      obtain ⟨M, hM⟩ : ∃ M, M = mxN m c b := ⟨_, rfl⟩
      rw [← hM] at hb
      have hMb : b ≤ M := by
        rw [hM]
        unfold mxN
        split <;> omega
      refine ⟨.slice (if M = a then A else A.map (·.add (a * k))) (b - a) (M - a), ?_, ?_⟩
      · simp [execOp, hop, hvv, Instr.sliceAt, Instr.slice, run_underlying hu, m1, m2, m3, hb, szP_run hsz]
      · have key := Ra.sl (D := D) (w := w) k t' ((xs.take b).drop a) (if M = a then A else A.map (·.add (a * k))) (M - a) bk (off + a * k) (fun i j => vs (a + i) j) (by rw [hlen]; omega) (fun ht => by
            rw [hlen, hM]
            rcases hmx with ⟨rfl, hq⟩ | ⟨rfl, _⟩
            · obtain ⟨q1, q2⟩ := hq ht
              have := g2 q1
              simp [mxN]
              omega
            · simp [mxN]) (fun h0 => by
            rw [hlen] at h0
            obtain ⟨rfl, hD, hl⟩ := g3 (by omega)
            rw [if_neg (by omega)]
            exact ⟨by simp [add_plain'], hD, hl⟩) (fun i e he => by
            rw [List.getElem?_drop, List.getElem?_take] at he
            split at he
            · exact g4 _ e he
            · cases he) (fun i e j x he hx => by
            rw [List.getElem?_drop, List.getElem?_take] at he
            split at he
            · have := g5 _ e j x he hx
              rw [show off + a * k + (i * k + j) = off + ((a + i) * k + j) from by rw [Nat.add_mul]; omega]
              exact this
            · cases he) (fun i e j x he hx => by
            rw [List.getElem?_drop, List.getElem?_take] at he
            split at he
            · exact g6 _ e j x he hx
            · cases he)
        rw [hlen] at key
        exact key
  · cases he
theorem seq_slcS {P : Program} {ops : Array Oper} {K : FS → Prop} {rest : List Nat} {i : Nat} {s s' : LS} {tx : List UInt8} {l h : Option Int} {d : Option Tmp} (a b : Nat)
    (hh : slcO P ops s i = some (.val (.string ⟨⟨tx⟩⟩), l, h, none, d)) (hlo : loOk l a) (hhi : hiOk h b tx.length) (hab : a ≤ b) (hbn : b ≤ tx.length)
    (hs : s.put d (.val (.string ⟨⟨(tx.take b).drop a⟩⟩)) = s') (kk : SeqR P ops K rest s'.fs) : SeqR P ops K (i :: rest) s.fs := by
  subst hs
  obtain ⟨o, t, y, lo, hi, mx, hi2, hg, hop, hx, h1, h2, h3, rfl, hty⟩ := slcO_ok hh
  refine ⟨o, hi2, .inr ⟨hg, .inl ⟨.val (.string ⟨⟨(tx.take b).drop a⟩⟩), .inl fun D w ρ hops => ?_, by rw [LS.fs_put]; exact kk⟩⟩⟩
  have hv := arg_of hops y (by simp [hop, Op.operands])
  rw [← hx] at hv
  have m1 := bndA_ok hops h1 (fun y e => by simp [hop, Op.operands, e])
  have m2 := bndA_ok hops h2 (fun y e => by simp [hop, Op.operands, e])
  have m3 := bndA_ok hops h3 (fun y e => by simp [hop, Op.operands, e])
  rcases hty with ⟨k', tt', xs', e, he, hu, hsz⟩ | ⟨bb, he, hu⟩
  · cases he
  · generalize hvv : ρ y = v at hv
    cases hv
    have hb := run_bounds P w false tx.length tx.length a b l h none hlo hhi (.inl rfl) hab hbn (Nat.le_refl _)
    have hsz : (⟨⟨tx⟩⟩ : ByteArray).size = tx.length := rfl
    have hmx : mx.map ρ = none := by rw [m3]; rfl
    refine ⟨_, ?_, .val _⟩
    have hb' : (Instr.sliceBounds false tx.length tx.length (lo.map ρ) (hi.map ρ) none).run P w = .ok (a, b, tx.length) w := by
      rw [m1, m2]
      exact hb
    have hp := piece tx a b
    simp [execOp, hop, hvv, Instr.sliceAt, Instr.slice, run_underlying hu, hmx, hsz, hb']
    exact hp
theorem seq_byte {P : Program} {ops : Array Oper} {K : FS → Prop} {rest : List Nat} {i : Nat} {s s' : LS} {o : Oper} {t : TypeId} {x n : Operand} {tx : List UInt8} {d : Option Tmp} (j : Nat) (c : UInt8) {m : Int}
    (ho : opAt ops s i = some o) (hop : o.op = .index t x n) (hu : P.underlying t = some .string) (hx : s.ev x = .val (.string ⟨⟨tx⟩⟩)) (hn : s.ev n = .val (.int .i64 m)) (hm : m = (j : Int)) (hc : tx[j]? = some c)
    (hs : s.put o.dst (.val (.int .u8 (c.toNat : Int))) = s') (kk : SeqR P ops K rest s'.fs) : SeqR P ops K (i :: rest) s.fs := by
  subst hs hm
  obtain ⟨hi, hg⟩ := opAt_ok ho
  refine ⟨o, hi, .inr ⟨hg, .inl ⟨_, .inl fun D w ρ hops => ?_, by rw [LS.fs_put]; exact kk⟩⟩⟩
  have hvx := arg_of hops x (by simp [hop, Op.operands])
  have hvn := arg_of hops n (by simp [hop, Op.operands])
  rw [hx] at hvx
  rw [hn] at hvn
  generalize hxv : ρ x = vx at hvx
  generalize hnv : ρ n = vn at hvn
  cases hvx
  cases hvn
  refine ⟨_, ?_, .val _⟩
  have hj : j < tx.length := (List.getElem?_eq_some_iff.1 hc).1
  have hb : (⟨⟨tx⟩⟩ : ByteArray)[j]? = some c := by
    have hsz : j < (⟨⟨tx⟩⟩ : ByteArray).size := hj
    rw [getElem?_pos (⟨⟨tx⟩⟩ : ByteArray) j hsz]
    have := (List.getElem?_eq_some_iff.1 hc).2
    rw [← this]
    rfl
  simp [execOp, hop, hxv, hnv, Instr.index, asIntOf, run_underlying hu, hb]
theorem seq_appendNone {P : Program} {ops : Array Oper} {K : FS → Prop} {rest : List Nat} {i : Nat} {s s' : LS} {t e : TypeId} {k bytes : Nat} {d : Option Tmp} {tt t0 : Bool} {xs : List (List AV)}
    (h : appO ops s i = some (t, .sl k t0 xs, .sl k tt [], d)) (hE : elemB P t e k bytes = true) (hs : s.put d (.sl k t0 xs) = s') (kk : SeqR P ops K rest s'.fs) : SeqR P ops K (i :: rest) s.fs := by
  subst hs
  obtain ⟨o, c, x, y, hi, hg, hop, rfl, hx, hy, rfl⟩ := appO_ok h
  refine ⟨o, hi, .inr ⟨hg, .inr (.inl ⟨by rw [hop]; rfl, fun z nb => z = .sl k t0 xs ∧ nb = none, ?_, ?_⟩)⟩⟩
  · intro D w a Q K' hD hops hbx hcont
    obtain ⟨z, hEl⟩ := elemB_ok hE
    obtain ⟨ht, hinf, hzs, hsz⟩ := hEl
    obtain ⟨ii, hii, hiz, his, hib⟩ := info_of hinf
    have hvx := arg_of hops x (by simp [hop, Op.operands, Call.operands])
    have hvy := arg_of hops y (by simp [hop, Op.operands, Call.operands])
    rw [← hx] at hvx
    rw [← hy] at hvy
    have hvx' := hvx
    generalize hxv : a.eval x = vx at hvx hvx'
    generalize hyv : a.eval y = vy at hvy
    cases hvx with
    | sl k t xs A c b off vs g1 g2 g3 g4 g5 g6 =>
      cases hvy with
      | sl k t ys A' c' b' off' vs' q1 q2 q3 q4 q5 q6 =>
        have hrun : (execOp a.eval o).run P w = .ok (.value (.slice A xs.length c)) w := by
          have hl0 : (loadCells ⟨0, 0, none⟩ 0).run P w = .ok #[] w := rfl
          cases A' <;> cases A <;> simp [execOp, hop, resolve, invoke, builtin, hxv, hyv, Builtin.append_, run_underlying ht, Go.sizeOf, typeInfo, hii, Builtin.lenOf, Builtin.firstCells, g1, storeCells, loadCells, loadCellsFrom]
        unfold Oper.wp
        rw [hrun, Oper.upon_value]
        exact hcont _ w _ none D ⟨rfl, rfl⟩ (Below.refl _ _) (fun _ h => h) (fun b h => ⟨hD b h, .inl h⟩) hvx' (fun id y h => by cases h)
  · rintro z nb ⟨rfl, rfl⟩
    refine ⟨fun id y h => (by cases h), ?_⟩
    simp only [FS.addB]
    rw [LS.fs_put]
    exact kk
theorem seq_make {P : Program} {ops : Array Oper} {K : FS → Prop} {rest : List Nat} {i : Nat} {s : LS} {o : Oper} {t e : TypeId} {l c : Operand} {k bytes d cap : Nat} {m : Int} {f : Value → LS}
    (ho : opAt ops s i = some o) (hop : o.op = .makeSlice t l c) (hl : s.ev l = .val (.int .i64 0)) (hc : s.ev c = .val (.int .i64 m)) (hm : m = (cap : Int)) (hd : o.dst = some d) (hn : bget s.bx d = none) (hE : elemB P t e k bytes = true)
    (hby : bytes * cap ≤ 140737488355328) (h63 : cap ≤ 140737488355327)
    (hf : ∀ V', (s.put (some d) (.rw d V' 0)).setB d (.row V' e k []) = f V') (kk : ∀ V', SeqR P ops K rest (f V').fs) : SeqR P ops K (i :: rest) s.fs := by
  subst hm
  obtain ⟨hi, hg⟩ := opAt_ok ho
  refine ⟨o, hi, .inr ⟨hg, .inr (.inl ⟨by rw [hop]; rfl, _, mono_row (e := e) (k := k) (xs := []) hd (by simp) (fun D w ρ hops => ?_), ?_⟩)⟩⟩
  · obtain ⟨z, hEl⟩ := elemB_ok hE
    obtain ⟨ht, hinf, hzs, hsz⟩ := hEl
    obtain ⟨ii, hii, hiz, his, hib⟩ := info_of hinf
    have hvl := arg_of hops l (by simp [hop, Op.operands])
    have hvc := arg_of hops c (by simp [hop, Op.operands])
    rw [hl] at hvl
    rw [hc] at hvc
    generalize hlv : ρ l = vl at hvl
    generalize hcv : ρ c = vc at hvc
    cases hvl
    cases hvc
    obtain ⟨w', h1, h2, h3⟩ := run_make_own (P := P) w w.heap.size t e ii z k ht hii hiz his .i64 .i64 cap (by rw [hib]; omega) (by unfold maxLen; omega) (Nat.le_refl _)
    exact ⟨_, w', [], by simp [execOp, hop, hlv, hcv, h1], h3, h2, by simp, fun j a u ha => by simp at ha⟩
  · rintro z nb ⟨V', rfl, rfl⟩
    refine ⟨fun id y hy => ?_, ?_⟩
    · obtain ⟨rfl, rfl⟩ := by simpa using hy
      exact hn
    · have := kk V'
      rw [← hf V', ← LS.fs_setB, ← LS.fs_put] at this
      rw [hd]
      exact this
theorem seq_isnil {P : Program} {ops : Array Oper} {K : FS → Prop} {rest : List Nat} {i : Nat} {s : LS} {o : Oper} {t yt e : TypeId} {x y : Operand} {k d : Nat} {tt : Bool} {xs : List (List AV)} {f : Bool → LS}
    (ho : opAt ops s i = some o) (hop : o.op = .binOp .eql t x y yt) (hu : P.underlying t = some (.slice e)) (hx : s.ev x = .sl k tt xs) (hy : s.ev y = .val (.slice none 0 0)) (hd : o.dst = some d)
    (hf : ∀ b, s.put (some d) (.val (.bool b)) = f b) (kk : ∀ b, (b = true → xs = []) → SeqR P ops K rest (f b).fs) : SeqR P ops K (i :: rest) s.fs := by
  obtain ⟨hi, hg⟩ := opAt_ok ho
  refine ⟨o, hi, .inr ⟨hg, .inr (.inl ⟨by rw [hop]; simp [isRd, hu], fun z nb => (∃ b, z = .val (.bool b) ∧ (b = true → xs = [])) ∧ nb = none, ?_, ?_⟩)⟩⟩
  · intro D w a Q K' hD hops hbx hcont
    have hvx := arg_of hops x (by simp [hop, Op.operands])
    have hvy := arg_of hops y (by simp [hop, Op.operands])
    rw [hx] at hvx
    rw [hy] at hvy
    generalize hxv : a.eval x = vx at hvx
    generalize hyv : a.eval y = vy at hvy
    cases hvy
    cases hvx with
    | sl k t' xs A c b off vs h1 h2 h3 h4 h5 h6 =>
      have hq : ∀ w : World, (Op.equal t (.slice A xs.length c) (.slice none 0 0)).run P w = .ok A.isNone w := fun w => by
        unfold Op.equal
        rw [show Op.maxDepth = 9999 + 1 from rfl, Op.equalIn]
        cases A <;> simp [run_underlying hu]
      have hrun : (execOp a.eval o).run P w = .ok (.value (.bool A.isNone)) w := by
        simp [execOp, hop, hxv, hyv, eqGuard, binOp, hq]
      unfold Oper.wp
      rw [hrun, Oper.upon_value]
      refine hcont _ w _ none D ⟨⟨A.isNone, rfl, fun hn => ?_⟩, rfl⟩ (Below.refl _ _) (fun _ h => h) (fun b h => ⟨hD b h, .inl h⟩) (.val _) (fun id y h => by cases h)
      cases A with
      | some a => cases hn
      | none =>
        refine List.eq_nil_of_length_eq_zero ?_
        rcases Nat.eq_zero_or_pos xs.length with h | h
        · exact h
        · exact absurd (h3 h).1 (by simp)
  · rintro z nb ⟨⟨b, rfl, hb⟩, rfl⟩
    refine ⟨fun id y h => (by cases h), ?_⟩
    simp only [FS.addB]
    have := kk b hb
    rw [← hf b, ← LS.fs_put] at this
    rw [hd]
    exact this
def RowSpec (P : Program) (f : FuncId) (args : List AV) (e k : Nat) (xs : List (List AV)) : Prop :=
  ∀ (D : Nat → Prop) (w : World) (vs : Array Value), (∀ b, D b → b < w.heap.size) → RaAll D w args vs →
    Calls P f vs w (fun r w' => ∃ V us, r = .returned V ∧ Below w.heap.size w w' ∧ w'.ownsRow w.heap.size e k V xs.length us ∧ (∀ u ∈ us, u.oneCell' = true) ∧ ∀ (j : Nat) (a : AV) (u : Value), xs.flatten[j]? = some a → us[j]? = some u → Ra D w' a u)
theorem seq_callRow {P : Program} {ops : Array Oper} {K : FS → Prop} {rest : List Nat} {i : Nat} {s : LS} {f : FuncId} {args args' : List AV} {d e k : Nat} {xs : List (List AV)} {g : Value → LS} (h : callO ops s i = some (f, args, some d))
    (heg : ∀ vs w, (callFunc f vs).run P w = .ok (.enter f vs) w) (hsub : SubAll args args') (hkx : ∀ l ∈ xs, l.length = k) (hsp : RowSpec P f args' e k xs) (hn : bget s.bx d = none)
    (hf : ∀ V', (s.put (some d) (.rw d V' xs.length)).setB d (.row V' e k xs) = g V') (kk : ∀ V', SeqR P ops K rest (g V').fs) : SeqR P ops K (i :: rest) s.fs := by
  unfold callO at h
  split at h
  · rename_i o ho
    obtain ⟨hi, hg⟩ := opAt_ok ho
    split at h
    · rename_i c hop
      split at h
      · rename_i fo hc
        have hrd : isRd P o.op = false := by
          obtain ⟨callee, cargs, cts⟩ := c
          simp only at hc
          subst hc
          rw [hop]; rfl
        have core : o.dst = some d → (∀ (D : Nat → Prop) (w : World) (ρ : Operand → Value), opsR D w s.fs ρ o → ∃ vs, (execOp ρ o).run P w = (callFunc f vs).run P w ∧ RaAll D w args vs) → SeqR P ops K (i :: rest) s.fs := by
          intro hd hrun
          refine ⟨o, hi, .inr ⟨hg, .inr (.inl ⟨hrd, fun z nb => ∃ V, z = .rw d V xs.length ∧ nb = some (d, .row V e k xs), ?_, ?_⟩)⟩⟩
          · intro D w a Q K' hD hops hbx hcont
            obtain ⟨hl, hsa⟩ := hsub.ok
            obtain ⟨vs, h1, h2⟩ := hrun D w a.eval hops
            have hra : RaAll D w args' vs := by
              refine ⟨by rw [← hl]; exact h2.1, fun j x v hx hv => ?_⟩
              have hj : j < args.length := by have := (List.getElem?_eq_some_iff.1 hx).1; omega
              exact hsa j args[j] x (List.getElem?_eq_getElem hj) hx D w v (h2.2 j args[j] v (List.getElem?_eq_getElem hj) hv)
            unfold Oper.wp
            rw [h1, heg, Oper.upon_enter]
            refine (hsp D w _ hD hra).mono ?_
            rintro r w' ⟨V, us, rfl, hb, hown, hus, hru⟩
            have hown0 : w'.ownsRow 0 e k V xs.length us := by
              refine ⟨hown.1, ?_⟩
              rcases hown.2 with h' | ⟨g, cap, cur, rfl, hg, r⟩
              · exact .inl h'
              · exact .inr ⟨g, cap, cur, rfl, Nat.zero_le _, r⟩
            obtain ⟨A, cc, hV, _⟩ := (Sl.of_owns hown).shape
            refine hcont _ w' _ _ D ⟨V, rfl, rfl⟩ hb (fun _ h => h) (fun b h => ⟨Nat.lt_of_lt_of_le (hD b h) hb.size, .inl h⟩) (by rw [hV]; exact .rw d _ cc A) (fun id y hy => ?_)
            obtain ⟨rfl, rfl⟩ := by simpa using hy
            refine ⟨fun g hg' => ?_, hkx, us, hown0, hus, hru⟩
            have := own_block_ge hown g hg'
            exact ⟨this.1, fun hd => by have := hD _ hd; omega⟩
          · rintro z nb ⟨V', rfl, rfl⟩
            refine ⟨fun id y hy => ?_, ?_⟩
            · obtain ⟨rfl, rfl⟩ := by simpa using hy
              exact hn
            · have := kk V'
              rw [← hf V', ← LS.fs_setB, ← LS.fs_put] at this
              rw [hd]
              exact this
        split at h
        · rename_i g' hfv
          simp only [Option.some.injEq, Prod.mk.injEq] at h
          obtain ⟨rfl, rfl, hd⟩ := h
          refine core hd (fun D w ρ hops => ⟨c.args.map ρ, ?_, args_ra hop hops⟩)
          have hvf := arg_of hops fo (by simp [hop, Op.operands, Call.operands, hc])
          rw [hfv] at hvf
          generalize hfv' : ρ fo = vf at hvf
          cases hvf
          simp [execOp, hop, resolve, hc, hfv', Deferred.ofValue, invoke]
        · rename_i g' caps hfv
          simp only [Option.some.injEq, Prod.mk.injEq] at h
          obtain ⟨rfl, rfl, hd⟩ := h
          refine core hd (fun D w ρ hops => ?_)
          have hvf := arg_of hops fo (by simp [hop, Op.operands, Call.operands, hc])
          rw [hfv] at hvf
          generalize hfv' : ρ fo = vf at hvf
          cases hvf with
          | clo g caps vs h1 h2 =>
            obtain ⟨a1, a2⟩ := args_ra hop hops
            refine ⟨c.args.map ρ ++ vs, by simp [execOp, hop, resolve, hc, hfv', Deferred.ofValue, invoke], by simp; omega, fun j x v hx hv => ?_⟩
            by_cases hj : j < (c.args.map ρ).size
            · rw [Array.getElem?_append_left hj] at hv
              rw [List.getElem?_append_left (by omega)] at hx
              exact a2 j x v hx hv
            · rw [Array.getElem?_append_right (by omega)] at hv
              rw [List.getElem?_append_right (by omega), a1] at hx
              exact h2 _ x v hx hv
        · cases h
      · cases h
    · cases h
  · cases h
theorem SubB.of_eq {y y' : Bx} (h : y = y') : SubB y y' := h ▸ SubB.refl y
end Copyhold

set_option linter.unusedVariables false
namespace Copyhold
open Go Go.RowKit
def nilO (P : Program) (ops : Array Oper) (s : LS) (i : Nat) : Option (Nat × Bool × List (List AV) × Nat) :=
  match opAt ops s i with
  | some o =>
    match o.op, o.dst with
    | .binOp .eql t x y _, some d =>
      match P.underlying t, s.ev x, s.ev y with
      | some (.slice _), .sl k tt xs, .val (.slice none 0 0) => some (k, tt, xs, d)
      | _, _, _ => none
    | _, _ => none
  | none => none
theorem seqNil {P : Program} {ops : Array Oper} {K : FS → Prop} {rest : List Nat} {i : Nat} {s : LS} {k d : Nat} {tt : Bool} {xs : List (List AV)} {f : Bool → LS} (h : nilO P ops s i = some (k, tt, xs, d))
    (hf : ∀ b, s.put (some d) (.val (.bool b)) = f b) (kk : ∀ b, (b = true → xs = []) → SeqR P ops K rest (f b).fs) : SeqR P ops K (i :: rest) s.fs := by
  unfold nilO at h
  split at h
  · rename_i o ho
    split at h
    · rename_i t x y yt d' hop hd
      split at h
      · rename_i e k' tt' xs' hu hx hy
        simp only [Option.some.injEq, Prod.mk.injEq] at h
        obtain ⟨rfl, rfl, rfl, rfl⟩ := h
        exact seq_isnil ho hop hu hx hy hd hf kk
      · cases h
    · cases h
  · cases h
def mkO (ops : Array Oper) (s : LS) (i : Nat) : Option (TypeId × Int × Nat) :=
  match opAt ops s i with
  | some o =>
    match o.op, o.dst with
    | .makeSlice t l c, some d =>
      match s.ev l, s.ev c with
      | .val (.int .i64 0), .val (.int .i64 m) => some (t, m, d)
      | _, _ => none
    | _, _ => none
  | none => none
theorem seqMake {P : Program} {ops : Array Oper} {K : FS → Prop} {rest : List Nat} {i : Nat} {s : LS} {t e : TypeId} {k bytes d cap : Nat} {m : Int} {f : Value → LS}
    (h : mkO ops s i = some (t, m, d)) (hm : m = (cap : Int)) (hn : bget s.bx d = none) (hE : elemB P t e k bytes = true) (hby : bytes * cap ≤ 140737488355328) (h63 : cap ≤ 140737488355327)
    (hf : ∀ V', (s.put (some d) (.rw d V' 0)).setB d (.row V' e k []) = f V') (kk : ∀ V', SeqR P ops K rest (f V').fs) : SeqR P ops K (i :: rest) s.fs := by
  unfold mkO at h
  split at h
  · rename_i o ho
    split at h
    · rename_i t' l c d' hop hd
      split at h
      · rename_i m' hl hc
        simp only [Option.some.injEq, Prod.mk.injEq] at h
        obtain ⟨rfl, rfl, rfl⟩ := h
        exact seq_make ho hop hl hc hm hd hn hE hby h63 hf kk
      · cases h
    · cases h
  · cases h
def litO (P : Program) (ops : Array Oper) (s : LS) (i : Nat) : Option (TypeId × Nat × Nat) :=
  match opAt ops s i with
  | some o =>
    match o.op, o.dst with
    | .buildSlice t n parts, some d =>
      match n, parts.toList, elemP P t with
      | 0, [], some e =>
        match szP P e with
        | some k => some (e, k, d)
        | none => none
      | _, _, _ => none
    | _, _ => none
  | none => none
theorem seqLit0 {P : Program} {ops : Array Oper} {K : FS → Prop} {rest : List Nat} {i : Nat} {s : LS} {e k d : Nat} {f : Value → LS}
    (h : litO P ops s i = some (e, k, d)) (hn : bget s.bx d = none) (hf : ∀ V', (s.put (some d) (.rw d V' 0)).setB d (.row V' e k []) = f V') (kk : ∀ V', SeqR P ops K rest (f V').fs) : SeqR P ops K (i :: rest) s.fs := by
  unfold litO at h
  split at h
  · rename_i o ho
    obtain ⟨hi, hg⟩ := opAt_ok ho
    split at h
    · rename_i t n parts d' hop hd
      split at h
      · rename_i e' hp he
        split at h
        · rename_i k' hk
          simp only [Option.some.injEq, Prod.mk.injEq] at h
          obtain ⟨rfl, rfl, rfl⟩ := h
          have hp' : parts = #[] := by have := congrArg List.toArray hp; simpa using this
          subst hp'
          refine ⟨o, hi, .inr ⟨hg, .inr (.inl ⟨by rw [hop]; rfl, _, mono_row (e := e') (k := k') (xs := []) hd (by simp) (fun D w ρ hops => ?_), ?_⟩)⟩⟩
          · refine ⟨.slice (some ⟨w.heap.size, 0, none⟩) 0 0, w.alloc (.cells #[] e'), [], ?_, World.grownBy_alloc w _ none, ⟨by simp, .inr ⟨w.heap.size, 0, #[], rfl, Nat.le_refl _, heap_alloc_new w _, Nat.le_refl _, Nat.zero_le _, by simp, by simp⟩⟩, by simp, fun j a u ha => by simp at ha⟩
            simp [execOp, hop, Instr.buildSlice, run_underlying (elemP_u he), szP_run hk, show Array.range 0 = #[] from rfl, Instr.fill, newRow]
          · rintro z nb ⟨V', rfl, rfl⟩
            refine ⟨fun id y hy => ?_, ?_⟩
            · obtain ⟨rfl, rfl⟩ := by simpa using hy
              exact hn
            · have := kk V'
              rw [← hf V', ← LS.fs_setB, ← LS.fs_put] at this
              rw [hd]
              exact this
        · cases h
      · cases h
    · cases h
  · cases h
end Copyhold

set_option linter.unusedVariables false
namespace Copyhold
open Go Go.RowKit
def mkM (P : Program) (ops : Array Oper) (s : LS) (i : Nat) : Option Nat :=
  match opAt ops s i with
  | some o =>
    match o.op, o.dst with
    | .makeMap _ none, some d =>
      match bget s.bx d with
      | none => some d
      | _ => none
    | _, _ => none
  | none => none
theorem seqMkMap {P : Program} {ops : Array Oper} {K : FS → Prop} {rest : List Nat} {i : Nat} {s : LS} {d : Nat} {f : Nat → LS} (h : mkM P ops s i = some d)
    (hf : ∀ r, (s.put (some d) (.mref d r)).setB d (.mp r []) = f r) (kk : ∀ r, SeqR P ops K rest (f r).fs) : SeqR P ops K (i :: rest) s.fs := by
  unfold mkM at h
  split at h
  · rename_i o ho
    obtain ⟨hi, hg⟩ := opAt_ok ho
    split at h
    · rename_i t d' hop hd
      split at h
      · rename_i hn
        obtain rfl := Option.some.inj h
        refine ⟨o, hi, .inr ⟨hg, .inr (.inl ⟨by rw [hop]; rfl, fun z nb => ∃ r, z = .mref d' r ∧ nb = some (d', .mp r []), ?_, ?_⟩)⟩⟩
        · intro D w a Q K' hD hops hbx hcont
          have hrun : (execOp a.eval o).run P w = .ok (.value (.map (some w.heap.size))) (w.alloc (.map #[] 0)) := by
            simp [execOp, hop, Instr.makeMap]
          unfold Oper.wp
          rw [hrun, Oper.upon_value]
          have hb : Below w.heap.size w (w.alloc (.map #[] 0)) := (Below.refl _ _).alloc (Nat.le_refl _) _
          refine hcont _ _ _ _ D ⟨w.heap.size, rfl, rfl⟩ hb (fun _ h => h) (fun b h => ⟨Nat.lt_of_lt_of_le (hD b h) hb.size, .inl h⟩) (.mref _ _) (fun id y hy => ?_)
          obtain ⟨rfl, rfl⟩ := by simpa using hy
          refine ⟨fun g hg => ?_, #[], 0, heap_alloc_new w _, ⟨rfl, born_empty 0⟩, fun j p e hp => by simp at hp, fun j p e hp => by simp at hp⟩
          obtain rfl := Option.some.inj hg
          exact ⟨Nat.le_refl _, fun hd => by have := hD _ hd; omega⟩
        · rintro z nb ⟨r, rfl, rfl⟩
          refine ⟨fun id y hy => ?_, ?_⟩
          · obtain ⟨rfl, rfl⟩ := by simpa using hy
            exact hn
          · have := kk r
            rw [← hf r, ← LS.fs_setB, ← LS.fs_put] at this
            rw [hd]
            exact this
      · cases h
    · cases h
  · cases h
def keyOk (P : Program) (kt : TypeId) : MK → Bool
  | .i _ => match P.underlying kt with
    | some (.int .i64) => true
    | _ => false
  | .s _ => match P.underlying kt with
    | some .string => true
    | _ => false
def keyA : AV → Option MK
  | .val (.int .i64 z) => some (.i z)
  | .val (.string ⟨⟨l⟩⟩) => some (.s l)
  | _ => none
theorem keyA_ok {x : AV} {k : MK} (h : keyA x = some k) : x = .val k.val := by
  unfold keyA at h
  split at h
  · obtain rfl := Option.some.inj h; rfl
  · obtain rfl := Option.some.inj h; rfl
  · cases h
def mfind (k : MK) : List (MK × AV) → Nat → Option (Nat × AV)
  | [], _ => none
  | p :: r, i => if p.1 = k then some (i, p.2) else mfind k r (i + 1)
theorem bytes_beq (a b : List UInt8) : ((⟨⟨a⟩⟩ : ByteArray) == ⟨⟨b⟩⟩) = decide (a = b) := by
  show ((⟨a⟩ : Array UInt8) == (⟨b⟩ : Array UInt8)) = decide (a = b)
  by_cases h : a = b
  · subst h
    simp
  · have : (⟨a⟩ : Array UInt8) ≠ ⟨b⟩ := fun e => h (by injection e)
    simp only [h, decide_false]
    exact beq_false_of_ne this
theorem sameNow_key {P : Program} {kt : TypeId} {d : TypeDesc} {k k' : MK} (hd : P.underlying kt = some d) (h : keyOk P kt k = true) (h' : keyOk P kt k' = true) : Instr.sameNow d k.val k'.val = some (decide (k' = k)) := by
  cases k with
  | i z =>
    simp only [keyOk, hd] at h
    cases k' with
    | i z' =>
      simp only [keyOk, hd] at h'
      split at h
      · rename_i e
        obtain rfl := Option.some.inj e
        simp only [Instr.sameNow, MK.val, if_true]
        by_cases hz : z' = z
        · subst hz; simp
        · have h1 : ¬ z = z' := fun e => hz e.symm
          simp [hz, h1]
      · cases h
    | s l =>
      simp only [keyOk, hd] at h'
      split at h
      · rename_i e
        obtain rfl := Option.some.inj e
        simp at h'
      · cases h
  | s l =>
    simp only [keyOk, hd] at h
    cases k' with
    | i z' =>
      simp only [keyOk, hd] at h'
      split at h
      · rename_i e
        obtain rfl := Option.some.inj e
        simp at h'
      · cases h
    | s l' =>
      split at h
      · rename_i e
        obtain rfl := Option.some.inj e
        simp only [Instr.sameNow, MK.val]
        by_cases hz : l' = l
        · subst hz; simp [bytes_beq]
        · have h1 : ¬ l = l' := fun e => hz e.symm
          simp [bytes_beq, hz, h1]
      · cases h
theorem findNow_ok {P : Program} {kt : TypeId} {d : TypeDesc} {k : MK} (hd : P.underlying kt = some d) (h : keyOk P kt k = true) :
    ∀ (es : List (MK × AV)) (es' : List MapEntry) (i : Nat), es.length = es'.length → (∀ p ∈ es, keyOk P kt p.1 = true) → (∀ (j : Nat) (p : MK × AV) (e : MapEntry), es[j]? = some p → es'[j]? = some e → e.key = p.1.val) →
      (mfind k es i = none → Instr.findNow d k.val es' i = some none) ∧
      ∀ j x, mfind k es i = some (j, x) → ∃ e q, es'[q]? = some e ∧ es[q]? = some (k, x) ∧ j = i + q ∧ Instr.findNow d k.val es' i = some (some (j, e.val))
  | [], [], i, _, _, _ => ⟨fun _ => rfl, fun j x hx => by simp [mfind] at hx⟩
  | p :: es, e :: es', i, hl, hk, he => by
    have h0 := he 0 p e rfl rfl
    have hs := sameNow_key (k := k) (k' := p.1) hd h (hk p (by simp))
    obtain ⟨g1, g2⟩ := findNow_ok hd h es es' (i + 1) (by simpa using hl) (fun p hp => hk p (by simp [hp])) (fun j p e hp hq => he (j + 1) p e (by simpa using hp) (by simpa using hq))
    simp only [mfind, Instr.findNow, h0, hs]
    by_cases hp : p.1 = k
    · simp only [hp, if_true, decide_true]
      refine ⟨fun h => by simp at h, fun j x hx => ?_⟩
      simp only [Option.some.injEq, Prod.mk.injEq] at hx
      obtain ⟨rfl, rfl⟩ := hx
      exact ⟨e, 0, rfl, by simp [← hp], rfl, rfl⟩
    · simp only [hp, if_false, decide_false]
      refine ⟨g1, fun j x hx => ?_⟩
      obtain ⟨e', q, q1, q2, q3, q4⟩ := g2 j x hx
      exact ⟨e', q + 1, by simpa using q1, by simpa using q2, by omega, q4⟩
def insO (P : Program) (ops : Array Oper) (s : LS) (i : Nat) : Option (TypeId × Nat × Nat × MK × AV × Option Tmp) :=
  match opAt ops s i with
  | some o =>
    match o.op with
    | .insert t m k x =>
      match P.underlying t, s.ev m, keyA (s.ev k) with
      | some (.map kt _), .mref id r, some kk => some (kt, id, r, kk, s.ev x, o.dst)
      | _, _, _ => none
    | .mapUpdate t m k x =>
      match P.underlying t, s.ev m, keyA (s.ev k) with
      | some (.map kt _), .mref id r, some kk => some (kt, id, r, kk, s.ev x, o.dst)
      | _, _, _ => none
    | _ => none
  | none => none
theorem run_checkKey {P : Program} {kt : TypeId} {k : MK} (b : Bool) (h : keyOk P kt k = true) (w : World) : (Instr.checkKey b 10000 kt k.val).run P w = .ok () w := by
  rw [show (10000 : Nat) = 9999 + 1 from rfl, Instr.checkKey]
  cases k with
  | i z =>
    simp only [keyOk] at h
    split at h
    · rename_i hu
      simp [run_underlying hu, MK.val]
    · cases h
  | s l =>
    simp only [keyOk] at h
    split at h
    · rename_i hu
      simp [run_underlying hu, MK.val]
    · cases h
theorem keyOk_u {P : Program} {kt : TypeId} {k : MK} (h : keyOk P kt k = true) : ∃ d, P.underlying kt = some d := by
  cases k <;> simp only [keyOk] at h <;> split at h <;> first | (rename_i hu; exact ⟨_, hu⟩) | cases h
theorem seqIns {P : Program} {ops : Array Oper} {K : FS → Prop} {rest : List Nat} {i : Nat} {s s' : LS} {kt : TypeId} {id r r' : Nat} {k : MK} {x : AV} {es : List (MK × AV)} (h : insO P ops s i = some (kt, id, r, k, x, none))
    (hb : bget s.bx id = some (.mp r' es)) (hr : r' = r) (hk : (es.all fun p => keyOk P kt p.1) = true) (hk2 : keyOk P kt k = true) (hn : mfind k es 0 = none)
    (hf : s.setB id (.mp r' (es ++ [(k, x)])) = s') (kk : SeqR P ops K rest s'.fs) : SeqR P ops K (i :: rest) s.fs := by
  subst hr hf
  have core : ∀ (o : Oper) (t : TypeId) (m ko xo : Operand), opAt ops s i = some o → (o.op = .insert t m ko xo ∨ o.op = .mapUpdate t m ko xo) → (∃ e, P.underlying t = some (.map kt e)) → s.ev m = .mref id r' → keyA (s.ev ko) = some k → s.ev xo = x → o.dst = none → SeqR P ops K (i :: rest) s.fs := by
    intro o t m ko xo ho hop hu hm hko hx hd
    obtain ⟨hi, hg⟩ := opAt_ok ho
    have hmo : m ∈ o.op.operands ∧ ko ∈ o.op.operands ∧ xo ∈ o.op.operands := by
      rcases hop with h | h <;> simp [h, Op.operands]
    refine ⟨o, hi, .inr ⟨hg, .inr (.inr ⟨by rcases hop with h | h <;> (rw [h]; rfl), by rcases hop with h | h <;> (rw [h]; rfl), id, fun z y' => z = .any ∧ y' = .mp r' (es ++ [(k, x)]), ?_, ?_⟩)⟩⟩
    · refine MutOK.up ?_
      intro D w a Q K' hD hops hbx hnd hcont
      have hvm := arg_of hops m hmo.1
      have hvk := arg_of hops ko hmo.2.1
      have hvx := arg_of hops xo hmo.2.2
      rw [hm] at hvm
      rw [keyA_ok hko] at hvk
      rw [hx] at hvx
      generalize hmv : a.eval m = vm at hvm
      generalize hkv : a.eval ko = vk at hvk
      generalize hxv : a.eval xo = vx at hvx
      cases hvm
      cases hvk
      obtain ⟨es', clock, g1, ⟨g2, gB⟩, g3, g4⟩ := hbx id _ hb
      obtain ⟨d, hd'⟩ := keyOk_u hk2
      obtain ⟨e, hu⟩ := hu
      have hfind := (findNow_ok hd' hk2 es es'.toList 0 (by simpa using g2) (fun p hp => List.all_eq_true.1 hk p hp) (fun j p e hp he => g3 j p e hp (by simpa using he))).1 hn
      have hrun : (Instr.mapUpdate t (.map (some r')) k.val vx).run P w = .ok () { w with heap := w.heap.setIfInBounds r' (.map (es'.push { key := k.val, val := vx, born := clock }) (clock + 1)) } := by
        have e1 : (getObj r').run P w = .ok (.map es' clock) w := by simp [getObj, Sem.run, g1]
        have e2 : ∀ o', (setObj r' o').run P w = .ok () { w with heap := w.heap.setIfInBounds r' o' } := fun o' => by simp [setObj, Sem.run, g1]
        simp [Instr.mapUpdate, run_underlying hu, e1, run_checkKey false hk2, Instr.findKey, run_underlying hd', hfind, e2]
      have hexec : (execOp a.eval o).run P w = .ok .skip { w with heap := w.heap.setIfInBounds r' (.map (es'.push { key := k.val, val := vx, born := clock }) (clock + 1)) } := by
        rcases hop with h | h <;> simp [execOp, h, hmv, hkv, hxv, hrun]
      unfold Oper.wp
      rw [hexec, Oper.upon_skip]
      have hlt : r' < w.heap.size := (Array.getElem?_eq_some_iff.1 g1).1
      have hother : ∀ q, q ≠ r' → (w.heap.setIfInBounds r' (.map (es'.push { key := k.val, val := vx, born := clock }) (clock + 1)))[q]? = w.heap[q]? := fun q hq => Array.getElem?_setIfInBounds_ne (Ne.symm hq)
      have hfr : ∀ b u, Ra D w b u → Ra D { w with heap := w.heap.setIfInBounds r' (.map (es'.push { key := k.val, val := vx, born := clock }) (clock + 1)) } b u := fun b u hu =>
        hu.frame (fun _ h => h) (by simp) (fun b hdb hl => hother b (fun e => hnd _ r' hb rfl (e ▸ hdb)))
      refine hcont undef _ .any _ _ ⟨rfl, rfl⟩ hb ⟨rfl, rfl, rfl, by simp, fun q hq => by omega⟩ (fun q hq _ => hother q (fun e => hq (by rw [e]; rfl))) (fun g hg => ⟨.inl hg, hnd _ g hb hg⟩)
        ⟨es'.push { key := k.val, val := vx, born := clock }, clock + 1, by simp [hlt], ⟨by simp [g2], born_push gB _ _⟩, fun j p e hp he => ?_, fun j p e hp he => ?_⟩ (.any _)
      · by_cases hj : j < es.length
        · rw [List.getElem?_append_left hj] at hp
          rw [Array.getElem?_push_lt (by omega)] at he
          exact g3 j p e hp (by rw [← he]; simp [show j < es'.size by omega])
        · rw [List.getElem?_append_right (by omega)] at hp
          have hj2 : j = es.length := by have := (List.getElem?_eq_some_iff.1 hp).1; simp at this; omega
          subst hj2
          simp [g2] at hp he
          subst hp he
          rfl
      · by_cases hj : j < es.length
        · rw [List.getElem?_append_left hj] at hp
          rw [Array.getElem?_push_lt (by omega)] at he
          exact hfr _ _ (g4 j p e hp (by rw [← he]; simp [show j < es'.size by omega]))
        · rw [List.getElem?_append_right (by omega)] at hp
          have hj2 : j = es.length := by have := (List.getElem?_eq_some_iff.1 hp).1; simp at this; omega
          subst hj2
          simp [g2] at hp he
          subst hp he
          exact hfr _ _ hvx
    · rintro z y' ⟨rfl, rfl⟩
      rw [hd]
      have := kk
      rw [← LS.fs_setB] at this
      exact this
  unfold insO at h
  split at h
  · rename_i o ho
    split at h
    · rename_i t m ko xo hop
      split at h
      · rename_i kt' e id' r kk' hu hm hko
        simp only [Option.some.injEq, Prod.mk.injEq] at h
        obtain ⟨rfl, rfl, rfl, rfl, hx, hd⟩ := h
        exact core o t m ko xo ho (.inl hop) ⟨e, hu⟩ hm hko hx hd
      · cases h
    · rename_i t m ko xo hop
      split at h
      · rename_i kt' e id' r kk' hu hm hko
        simp only [Option.some.injEq, Prod.mk.injEq] at h
        obtain ⟨rfl, rfl, rfl, rfl, hx, hd⟩ := h
        exact core o t m ko xo ho (.inr hop) ⟨e, hu⟩ hm hko hx hd
      · cases h
    · cases h
  · cases h
theorem Fz.mref (id r : Nat) (es : List (MK × AV)) : FzS (.mp r es) (.mref id r) (.mp es) := fun D w v hD hy h => by
  cases h
  obtain ⟨es', clock, h1, h2, h3, h4⟩ := hy
  exact .mp es r es' clock (.inr rfl) (Array.getElem?_eq_some_iff.1 h1).1 h1 h2 h3 (fun j p e hp he => (h4 j p e hp he).frame (fun b h => .inl h) (Nat.le_refl _) (fun _ _ _ => rfl))
def lkO (P : Program) (ops : Array Oper) (s : LS) (i : Nat) : Option (TypeId × TypeId × List (MK × AV) × MK × Bool × Option Tmp) :=
  match opAt ops s i with
  | some o =>
    match o.op with
    | .lookup t m k ok =>
      match P.underlying t, s.ev m, keyA (s.ev k) with
      | some (.map kt e), .mp es, some kk => some (kt, e, es, kk, ok, o.dst)
      | _, _, _ => none
    | _ => none
  | none => none
def fdV (fd : Option (Nat × AV)) (zv : Value) : AV :=
  match fd with
  | some p => p.2
  | none => .val zv
def lkRes (ok : Bool) (v : AV) (b : Bool) : AV := if ok then .tup [v, .val (.bool b)] else v
theorem seqLook {P : Program} {ops : Array Oper} {K : FS → Prop} {rest : List Nat} {i : Nat} {s s' : LS} {kt e : TypeId} {k : MK} {es : List (MK × AV)} {ok : Bool} {d : Option Tmp} (fd : Option (Nat × AV)) (zv : Value) (h : lkO P ops s i = some (kt, e, es, k, ok, d))
    (hk : (es.all fun p => keyOk P kt p.1) = true) (hk2 : keyOk P kt k = true) (hz : (P.info? e).bind (·.zero) = some zv) (hn : mfind k es 0 = fd)
    (hf : s.put d (lkRes ok (fdV fd zv) fd.isSome) = s') (kk : SeqR P ops K rest s'.fs) : SeqR P ops K (i :: rest) s.fs := by
  subst hf
  unfold lkO at h
  split at h
  · rename_i o ho
    obtain ⟨hi, hg⟩ := opAt_ok ho
    split at h
    · rename_i t m ko ok' hop
      split at h
      · rename_i kt' e' es1 kk' hu hm hko
        simp only [Option.some.injEq, Prod.mk.injEq] at h
        obtain ⟨rfl, rfl, rfl, rfl, rfl, rfl⟩ := h
        refine ⟨o, hi, .inr ⟨hg, .inr (.inl ⟨by rw [hop]; rfl, fun z nb => z = lkRes ok' (fdV fd zv) fd.isSome ∧ nb = none, ?_, ?_⟩)⟩⟩
        · intro D w a Q K' hD hops hbx hcont
          have hvm := arg_of hops m (by simp [hop, Op.operands])
          have hvk := arg_of hops ko (by simp [hop, Op.operands])
          rw [hm] at hvm
          rw [keyA_ok hko] at hvk
          generalize hmv : a.eval m = vm at hvm
          generalize hkv : a.eval ko = vk at hvk
          cases hvk
          cases hvm with
          | mp es r es' clock g1 g2 g3 g4' g5 g6 =>
            obtain ⟨g4, gB⟩ := g4'
            obtain ⟨dd, hd'⟩ := keyOk_u hk2
            have e1 : (getObj r).run P w = .ok (.map es' clock) w := by simp [getObj, Sem.run, g3]
            obtain ⟨f1, f2⟩ := findNow_ok hd' hk2 es1 es'.toList 0 (by simpa using g4) (fun p hp => List.all_eq_true.1 hk p hp) (fun j p e hp he => g5 j p e hp (by simpa using he))
            have main : ∃ v, (execOp a.eval o).run P w = .ok (.value v) w ∧ Ra D w (lkRes ok' (fdV fd zv) fd.isSome) v := by
              cases fd with
              | none =>
                have hfind := f1 hn
                obtain ⟨inf, hi1, hi2⟩ : ∃ inf, P.info? e' = some inf ∧ inf.zero = some zv := by
                  cases hinf : P.info? e' with
                  | none => rw [hinf] at hz; cases hz
                  | some inf => rw [hinf] at hz; exact ⟨inf, rfl, hz⟩
                cases ok' with
                | true =>
                  refine ⟨.tuple #[zv, .bool false], by simp [execOp, hop, hmv, hkv, Instr.lookup, run_underlying hu, e1, run_checkKey _ hk2, Instr.findKey, run_underlying hd', hfind, zeroValue, typeInfo, hi1, hi2], .tup _ _ rfl (fun j x v hx hv => ?_)⟩
                  match j, hx, hv with
                  | 0, hx, hv => simp at hx hv; subst hx hv; exact .val _
                  | 1, hx, hv => simp at hx hv; subst hx hv; exact .val _
                  | j + 2, hx, _ => simp at hx
                | false =>
                  exact ⟨zv, by simp [execOp, hop, hmv, hkv, Instr.lookup, run_underlying hu, e1, run_checkKey _ hk2, Instr.findKey, run_underlying hd', hfind, zeroValue, typeInfo, hi1, hi2], .val _⟩
              | some p =>
                obtain ⟨j, x⟩ := p
                obtain ⟨en, q, q1, q2, q3, hfind⟩ := f2 j x hn
                have hre := g6 q _ en q2 (by simpa using q1)
                cases ok' with
                | true =>
                  refine ⟨.tuple #[en.val, .bool true], by simp [execOp, hop, hmv, hkv, Instr.lookup, run_underlying hu, e1, run_checkKey _ hk2, Instr.findKey, run_underlying hd', hfind], .tup _ _ rfl (fun j x v hx hv => ?_)⟩
                  match j, hx, hv with
                  | 0, hx, hv => simp at hx hv; subst hx hv; exact hre
                  | 1, hx, hv => simp at hx hv; subst hx hv; exact .val _
                  | j + 2, hx, _ => simp at hx
                | false =>
                  exact ⟨en.val, by simp [execOp, hop, hmv, hkv, Instr.lookup, run_underlying hu, e1, run_checkKey _ hk2, Instr.findKey, run_underlying hd', hfind], hre⟩
            obtain ⟨v, m1, m2⟩ := main
            unfold Oper.wp
            rw [m1, Oper.upon_value]
            exact hcont _ w _ none D ⟨rfl, rfl⟩ (Below.refl _ _) (fun _ h => h) (fun b h => ⟨hD b h, .inl h⟩) m2 (fun id y h => by cases h)
        · rintro z nb ⟨rfl, rfl⟩
          refine ⟨fun id y h => (by cases h), ?_⟩
          simp only [FS.addB]
          rw [LS.fs_put]
          exact kk
      · cases h
    · cases h
  · cases h
end Copyhold
