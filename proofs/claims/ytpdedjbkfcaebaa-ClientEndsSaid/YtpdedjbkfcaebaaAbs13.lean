/- Maps over abstract states: made, filled, made data, looked up; over any program. No conditions beyond each law's own. -/
import Derived.Test.YtpdedjbkfcaebaaAbs12
set_option linter.unusedVariables false
namespace Copyhold
open Go Go.RowKit
def mkM (P : Program) (ops : Array Oper) (s : LS) (i : Nat) : Option Nat :=
  match opAt ops s i with
  | some o =>
    match o.op, o.dst with
    | .makeMap _ none, some d =>
      match bget s.bx d with
      | none => some d
      | _ => none
    | _, _ => none
  | none => none
theorem seqMkMap {P : Program} {ops : Array Oper} {K : FS → Prop} {rest : List Nat} {i : Nat} {s : LS} {d : Nat} {f : Nat → LS} (h : mkM P ops s i = some d)
    (hf : ∀ r, (s.put (some d) (.mref d r)).setB d (.mp r []) = f r) (kk : ∀ r, SeqR P ops K rest (f r).fs) : SeqR P ops K (i :: rest) s.fs := by
  unfold mkM at h
  split at h
  · rename_i o ho
    obtain ⟨hi, hg⟩ := opAt_ok ho
    split at h
    · rename_i t d' hop hd
      split at h
      · rename_i hn
        obtain rfl := Option.some.inj h
        refine ⟨o, hi, .inr ⟨hg, .inr (.inl ⟨by rw [hop]; rfl, fun z nb => ∃ r, z = .mref d' r ∧ nb = some (d', .mp r []), ?_, ?_⟩)⟩⟩
        · intro D w a Q K' hD hops hbx hcont
          have hrun : (execOp a.eval o).run P w = .ok (.value (.map (some w.heap.size))) (w.alloc (.map #[] 0)) := by
            simp [execOp, hop, Instr.makeMap]
          unfold Oper.wp
          rw [hrun, Oper.upon_value]
          have hb : Below w.heap.size w (w.alloc (.map #[] 0)) := (Below.refl _ _).alloc (Nat.le_refl _) _
          refine hcont _ _ _ _ D ⟨w.heap.size, rfl, rfl⟩ hb (fun _ h => h) (fun b h => ⟨Nat.lt_of_lt_of_le (hD b h) hb.size, .inl h⟩) (.mref _ _) (fun id y hy => ?_)
          obtain ⟨rfl, rfl⟩ := by simpa using hy
          refine ⟨fun g hg => ?_, #[], 0, heap_alloc_new w _, rfl, fun j p e hp => by simp at hp, fun j p e hp => by simp at hp⟩
          obtain rfl := Option.some.inj hg
          exact ⟨Nat.le_refl _, fun hd => by have := hD _ hd; omega⟩
        · rintro z nb ⟨r, rfl, rfl⟩
          refine ⟨fun id y hy => ?_, ?_⟩
          · obtain ⟨rfl, rfl⟩ := by simpa using hy
            exact hn
          · have := kk r
            rw [← hf r, ← LS.fs_setB, ← LS.fs_put] at this
            rw [hd]
            exact this
      · cases h
    · cases h
  · cases h
def keyOk (P : Program) (kt : TypeId) : MK → Bool
  | .i _ => match P.underlying kt with
    | some (.int .i64) => true
    | _ => false
  | .s _ => match P.underlying kt with
    | some .string => true
    | _ => false
def keyA : AV → Option MK
  | .val (.int .i64 z) => some (.i z)
  | .val (.string ⟨⟨l⟩⟩) => some (.s l)
  | _ => none
theorem keyA_ok {x : AV} {k : MK} (h : keyA x = some k) : x = .val k.val := by
  unfold keyA at h
  split at h
  · obtain rfl := Option.some.inj h; rfl
  · obtain rfl := Option.some.inj h; rfl
  · cases h
def mfind (k : MK) : List (MK × AV) → Nat → Option (Nat × AV)
  | [], _ => none
  | p :: r, i => if p.1 = k then some (i, p.2) else mfind k r (i + 1)
theorem bytes_beq (a b : List UInt8) : ((⟨⟨a⟩⟩ : ByteArray) == ⟨⟨b⟩⟩) = decide (a = b) := by
  show ((⟨a⟩ : Array UInt8) == (⟨b⟩ : Array UInt8)) = decide (a = b)
  by_cases h : a = b
  · subst h
    simp
  · have : (⟨a⟩ : Array UInt8) ≠ ⟨b⟩ := fun e => h (by injection e)
    simp only [h, decide_false]
    exact beq_false_of_ne this
theorem sameNow_key {P : Program} {kt : TypeId} {d : TypeDesc} {k k' : MK} (hd : P.underlying kt = some d) (h : keyOk P kt k = true) (h' : keyOk P kt k' = true) : Instr.sameNow d k.val k'.val = some (decide (k' = k)) := by
  cases k with
  | i z =>
    simp only [keyOk, hd] at h
    cases k' with
    | i z' =>
      simp only [keyOk, hd] at h'
      split at h
      · rename_i e
        obtain rfl := Option.some.inj e
        simp only [Instr.sameNow, MK.val, if_true]
        by_cases hz : z' = z
        · subst hz; simp
        · have h1 : ¬ z = z' := fun e => hz e.symm
          simp [hz, h1]
      · cases h
    | s l =>
      simp only [keyOk, hd] at h'
      split at h
      · rename_i e
        obtain rfl := Option.some.inj e
        simp at h'
      · cases h
  | s l =>
    simp only [keyOk, hd] at h
    cases k' with
    | i z' =>
      simp only [keyOk, hd] at h'
      split at h
      · rename_i e
        obtain rfl := Option.some.inj e
        simp at h'
      · cases h
    | s l' =>
      split at h
      · rename_i e
        obtain rfl := Option.some.inj e
        simp only [Instr.sameNow, MK.val]
        by_cases hz : l' = l
        · subst hz; simp [bytes_beq]
        · have h1 : ¬ l = l' := fun e => hz e.symm
          simp [bytes_beq, hz, h1]
      · cases h
theorem findNow_ok {P : Program} {kt : TypeId} {d : TypeDesc} {k : MK} (hd : P.underlying kt = some d) (h : keyOk P kt k = true) :
    ∀ (es : List (MK × AV)) (es' : List MapEntry) (i : Nat), es.length = es'.length → (∀ p ∈ es, keyOk P kt p.1 = true) → (∀ (j : Nat) (p : MK × AV) (e : MapEntry), es[j]? = some p → es'[j]? = some e → e.key = p.1.val) →
      (mfind k es i = none → Instr.findNow d k.val es' i = some none) ∧
      ∀ j x, mfind k es i = some (j, x) → ∃ e q, es'[q]? = some e ∧ es[q]? = some (k, x) ∧ j = i + q ∧ Instr.findNow d k.val es' i = some (some (j, e.val))
  | [], [], i, _, _, _ => ⟨fun _ => rfl, fun j x hx => by simp [mfind] at hx⟩
  | p :: es, e :: es', i, hl, hk, he => by
    have h0 := he 0 p e rfl rfl
    have hs := sameNow_key (k := k) (k' := p.1) hd h (hk p (by simp))
    obtain ⟨g1, g2⟩ := findNow_ok hd h es es' (i + 1) (by simpa using hl) (fun p hp => hk p (by simp [hp])) (fun j p e hp hq => he (j + 1) p e (by simpa using hp) (by simpa using hq))
    simp only [mfind, Instr.findNow, h0, hs]
    by_cases hp : p.1 = k
    · simp only [hp, if_true, decide_true]
      refine ⟨fun h => by simp at h, fun j x hx => ?_⟩
      simp only [Option.some.injEq, Prod.mk.injEq] at hx
      obtain ⟨rfl, rfl⟩ := hx
      exact ⟨e, 0, rfl, by simp [← hp], rfl, rfl⟩
    · simp only [hp, if_false, decide_false]
      refine ⟨g1, fun j x hx => ?_⟩
      obtain ⟨e', q, q1, q2, q3, q4⟩ := g2 j x hx
      exact ⟨e', q + 1, by simpa using q1, by simpa using q2, by omega, q4⟩
def insO (P : Program) (ops : Array Oper) (s : LS) (i : Nat) : Option (TypeId × Nat × Nat × MK × AV × Option Tmp) :=
  match opAt ops s i with
  | some o =>
    match o.op with
    | .insert t m k x =>
      match P.underlying t, s.ev m, keyA (s.ev k) with
      | some (.map kt _), .mref id r, some kk => some (kt, id, r, kk, s.ev x, o.dst)
      | _, _, _ => none
    | .mapUpdate t m k x =>
      match P.underlying t, s.ev m, keyA (s.ev k) with
      | some (.map kt _), .mref id r, some kk => some (kt, id, r, kk, s.ev x, o.dst)
      | _, _, _ => none
    | _ => none
  | none => none
theorem run_checkKey {P : Program} {kt : TypeId} {k : MK} (b : Bool) (h : keyOk P kt k = true) (w : World) : (Instr.checkKey b 10000 kt k.val).run P w = .ok () w := by
  rw [show (10000 : Nat) = 9999 + 1 from rfl, Instr.checkKey]
  cases k with
  | i z =>
    simp only [keyOk] at h
    split at h
    · rename_i hu
      simp [run_underlying hu, MK.val]
    · cases h
  | s l =>
    simp only [keyOk] at h
    split at h
    · rename_i hu
      simp [run_underlying hu, MK.val]
    · cases h
theorem keyOk_u {P : Program} {kt : TypeId} {k : MK} (h : keyOk P kt k = true) : ∃ d, P.underlying kt = some d := by
  cases k <;> simp only [keyOk] at h <;> split at h <;> first | (rename_i hu; exact ⟨_, hu⟩) | cases h
theorem seqIns {P : Program} {ops : Array Oper} {K : FS → Prop} {rest : List Nat} {i : Nat} {s s' : LS} {kt : TypeId} {id r r' : Nat} {k : MK} {x : AV} {es : List (MK × AV)} (h : insO P ops s i = some (kt, id, r, k, x, none))
    (hb : bget s.bx id = some (.mp r' es)) (hr : r' = r) (hk : (es.all fun p => keyOk P kt p.1) = true) (hk2 : keyOk P kt k = true) (hn : mfind k es 0 = none)
    (hf : s.setB id (.mp r' (es ++ [(k, x)])) = s') (kk : SeqR P ops K rest s'.fs) : SeqR P ops K (i :: rest) s.fs := by
  subst hr hf
  have core : ∀ (o : Oper) (t : TypeId) (m ko xo : Operand), opAt ops s i = some o → (o.op = .insert t m ko xo ∨ o.op = .mapUpdate t m ko xo) → (∃ e, P.underlying t = some (.map kt e)) → s.ev m = .mref id r' → keyA (s.ev ko) = some k → s.ev xo = x → o.dst = none → SeqR P ops K (i :: rest) s.fs := by
    intro o t m ko xo ho hop hu hm hko hx hd
    obtain ⟨hi, hg⟩ := opAt_ok ho
    have hmo : m ∈ o.op.operands ∧ ko ∈ o.op.operands ∧ xo ∈ o.op.operands := by
      rcases hop with h | h <;> simp [h, Op.operands]
    refine ⟨o, hi, .inr ⟨hg, .inr (.inr ⟨by rcases hop with h | h <;> (rw [h]; rfl), by rcases hop with h | h <;> (rw [h]; rfl), id, fun z y' => z = .any ∧ y' = .mp r' (es ++ [(k, x)]), ?_, ?_⟩)⟩⟩
    · intro D w a Q K' hD hops hbx hnd hcont
      have hvm := arg_of hops m hmo.1
      have hvk := arg_of hops ko hmo.2.1
      have hvx := arg_of hops xo hmo.2.2
      rw [hm] at hvm
      rw [keyA_ok hko] at hvk
      rw [hx] at hvx
      generalize hmv : a.eval m = vm at hvm
      generalize hkv : a.eval ko = vk at hvk
      generalize hxv : a.eval xo = vx at hvx
      cases hvm
      cases hvk
      obtain ⟨es', clock, g1, g2, g3, g4⟩ := hbx id _ hb
      obtain ⟨d, hd'⟩ := keyOk_u hk2
      obtain ⟨e, hu⟩ := hu
      have hfind := (findNow_ok hd' hk2 es es'.toList 0 (by simpa using g2) (fun p hp => List.all_eq_true.1 hk p hp) (fun j p e hp he => g3 j p e hp (by simpa using he))).1 hn
      have hrun : (Instr.mapUpdate t (.map (some r')) k.val vx).run P w = .ok () { w with heap := w.heap.setIfInBounds r' (.map (es'.push { key := k.val, val := vx, born := clock }) (clock + 1)) } := by
        have e1 : (getObj r').run P w = .ok (.map es' clock) w := by simp [getObj, Sem.run, g1]
        have e2 : ∀ o', (setObj r' o').run P w = .ok () { w with heap := w.heap.setIfInBounds r' o' } := fun o' => by simp [setObj, Sem.run, g1]
        simp [Instr.mapUpdate, run_underlying hu, e1, run_checkKey false hk2, Instr.findKey, run_underlying hd', hfind, e2]
      have hexec : (execOp a.eval o).run P w = .ok .skip { w with heap := w.heap.setIfInBounds r' (.map (es'.push { key := k.val, val := vx, born := clock }) (clock + 1)) } := by
        rcases hop with h | h <;> simp [execOp, h, hmv, hkv, hxv, hrun]
      unfold Oper.wp
      rw [hexec, Oper.upon_skip]
      have hlt : r' < w.heap.size := (Array.getElem?_eq_some_iff.1 g1).1
      have hother : ∀ q, q ≠ r' → (w.heap.setIfInBounds r' (.map (es'.push { key := k.val, val := vx, born := clock }) (clock + 1)))[q]? = w.heap[q]? := fun q hq => Array.getElem?_setIfInBounds_ne (Ne.symm hq)
      have hfr : ∀ b u, Ra D w b u → Ra D { w with heap := w.heap.setIfInBounds r' (.map (es'.push { key := k.val, val := vx, born := clock }) (clock + 1)) } b u := fun b u hu =>
        hu.frame (fun _ h => h) (by simp) (fun b hdb hl => hother b (fun e => hnd _ r' hb rfl (e ▸ hdb)))
      refine hcont undef _ .any _ _ ⟨rfl, rfl⟩ hb ⟨rfl, rfl, rfl, by simp, fun q hq => by omega⟩ (fun q hq _ => hother q (fun e => hq (by rw [e]; rfl))) (fun g hg => ⟨.inl hg, hnd _ g hb hg⟩)
        ⟨es'.push { key := k.val, val := vx, born := clock }, clock + 1, by simp [hlt], by simp [g2], fun j p e hp he => ?_, fun j p e hp he => ?_⟩ (.any _)
      · by_cases hj : j < es.length
        · rw [List.getElem?_append_left hj] at hp
          rw [Array.getElem?_push_lt (by omega)] at he
          exact g3 j p e hp (by rw [← he]; simp [show j < es'.size by omega])
        · rw [List.getElem?_append_right (by omega)] at hp
          have hj2 : j = es.length := by have := (List.getElem?_eq_some_iff.1 hp).1; simp at this; omega
          subst hj2
          simp [g2] at hp he
          subst hp he
          rfl
      · by_cases hj : j < es.length
        · rw [List.getElem?_append_left hj] at hp
          rw [Array.getElem?_push_lt (by omega)] at he
          exact hfr _ _ (g4 j p e hp (by rw [← he]; simp [show j < es'.size by omega]))
        · rw [List.getElem?_append_right (by omega)] at hp
          have hj2 : j = es.length := by have := (List.getElem?_eq_some_iff.1 hp).1; simp at this; omega
          subst hj2
          simp [g2] at hp he
          subst hp he
          exact hfr _ _ hvx
    · rintro z y' ⟨rfl, rfl⟩
      rw [hd]
      have := kk
      rw [← LS.fs_setB] at this
      exact this
  unfold insO at h
  split at h
  · rename_i o ho
    split at h
    · rename_i t m ko xo hop
      split at h
      · rename_i kt' e id' r kk' hu hm hko
        simp only [Option.some.injEq, Prod.mk.injEq] at h
        obtain ⟨rfl, rfl, rfl, rfl, hx, hd⟩ := h
        exact core o t m ko xo ho (.inl hop) ⟨e, hu⟩ hm hko hx hd
      · cases h
    · rename_i t m ko xo hop
      split at h
      · rename_i kt' e id' r kk' hu hm hko
        simp only [Option.some.injEq, Prod.mk.injEq] at h
        obtain ⟨rfl, rfl, rfl, rfl, hx, hd⟩ := h
        exact core o t m ko xo ho (.inr hop) ⟨e, hu⟩ hm hko hx hd
      · cases h
    · cases h
  · cases h
theorem Fz.mref (id r : Nat) (es : List (MK × AV)) : FzS (.mp r es) (.mref id r) (.mp es) := fun D w v hD hy h => by
  cases h
  obtain ⟨es', clock, h1, h2, h3, h4⟩ := hy
  exact .mp es r es' clock (.inr rfl) (Array.getElem?_eq_some_iff.1 h1).1 h1 h2 h3 (fun j p e hp he => (h4 j p e hp he).frame (fun b h => .inl h) (Nat.le_refl _) (fun _ _ _ => rfl))
def lkO (P : Program) (ops : Array Oper) (s : LS) (i : Nat) : Option (TypeId × TypeId × List (MK × AV) × MK × Bool × Option Tmp) :=
  match opAt ops s i with
  | some o =>
    match o.op with
    | .lookup t m k ok =>
      match P.underlying t, s.ev m, keyA (s.ev k) with
      | some (.map kt e), .mp es, some kk => some (kt, e, es, kk, ok, o.dst)
      | _, _, _ => none
    | _ => none
  | none => none
def fdV (fd : Option (Nat × AV)) (zv : Value) : AV :=
  match fd with
  | some p => p.2
  | none => .val zv
def lkRes (ok : Bool) (v : AV) (b : Bool) : AV := if ok then .tup [v, .val (.bool b)] else v
theorem seqLook {P : Program} {ops : Array Oper} {K : FS → Prop} {rest : List Nat} {i : Nat} {s s' : LS} {kt e : TypeId} {k : MK} {es : List (MK × AV)} {ok : Bool} {d : Option Tmp} (fd : Option (Nat × AV)) (zv : Value) (h : lkO P ops s i = some (kt, e, es, k, ok, d))
    (hk : (es.all fun p => keyOk P kt p.1) = true) (hk2 : keyOk P kt k = true) (hz : (P.info? e).bind (·.zero) = some zv) (hn : mfind k es 0 = fd)
    (hf : s.put d (lkRes ok (fdV fd zv) fd.isSome) = s') (kk : SeqR P ops K rest s'.fs) : SeqR P ops K (i :: rest) s.fs := by
  subst hf
  unfold lkO at h
  split at h
  · rename_i o ho
    obtain ⟨hi, hg⟩ := opAt_ok ho
    split at h
    · rename_i t m ko ok' hop
      split at h
      · rename_i kt' e' es1 kk' hu hm hko
        simp only [Option.some.injEq, Prod.mk.injEq] at h
        obtain ⟨rfl, rfl, rfl, rfl, rfl, rfl⟩ := h
        refine ⟨o, hi, .inr ⟨hg, .inr (.inl ⟨by rw [hop]; rfl, fun z nb => z = lkRes ok' (fdV fd zv) fd.isSome ∧ nb = none, ?_, ?_⟩)⟩⟩
        · intro D w a Q K' hD hops hbx hcont
          have hvm := arg_of hops m (by simp [hop, Op.operands])
          have hvk := arg_of hops ko (by simp [hop, Op.operands])
          rw [hm] at hvm
          rw [keyA_ok hko] at hvk
          generalize hmv : a.eval m = vm at hvm
          generalize hkv : a.eval ko = vk at hvk
          cases hvk
          cases hvm with
          | mp es r es' clock g1 g2 g3 g4 g5 g6 =>
            obtain ⟨dd, hd'⟩ := keyOk_u hk2
            have e1 : (getObj r).run P w = .ok (.map es' clock) w := by simp [getObj, Sem.run, g3]
            obtain ⟨f1, f2⟩ := findNow_ok hd' hk2 es1 es'.toList 0 (by simpa using g4) (fun p hp => List.all_eq_true.1 hk p hp) (fun j p e hp he => g5 j p e hp (by simpa using he))
            have main : ∃ v, (execOp a.eval o).run P w = .ok (.value v) w ∧ Ra D w (lkRes ok' (fdV fd zv) fd.isSome) v := by
              cases fd with
              | none =>
                have hfind := f1 hn
                obtain ⟨inf, hi1, hi2⟩ : ∃ inf, P.info? e' = some inf ∧ inf.zero = some zv := by
                  cases hinf : P.info? e' with
                  | none => rw [hinf] at hz; cases hz
                  | some inf => rw [hinf] at hz; exact ⟨inf, rfl, hz⟩
                cases ok' with
                | true =>
                  refine ⟨.tuple #[zv, .bool false], by simp [execOp, hop, hmv, hkv, Instr.lookup, run_underlying hu, e1, run_checkKey _ hk2, Instr.findKey, run_underlying hd', hfind, zeroValue, typeInfo, hi1, hi2], .tup _ _ rfl (fun j x v hx hv => ?_)⟩
                  match j, hx, hv with
                  | 0, hx, hv => simp at hx hv; subst hx hv; exact .val _
                  | 1, hx, hv => simp at hx hv; subst hx hv; exact .val _
                  | j + 2, hx, _ => simp at hx
                | false =>
                  exact ⟨zv, by simp [execOp, hop, hmv, hkv, Instr.lookup, run_underlying hu, e1, run_checkKey _ hk2, Instr.findKey, run_underlying hd', hfind, zeroValue, typeInfo, hi1, hi2], .val _⟩
              | some p =>
                obtain ⟨j, x⟩ := p
                obtain ⟨en, q, q1, q2, q3, hfind⟩ := f2 j x hn
                have hre := g6 q _ en q2 (by simpa using q1)
                cases ok' with
                | true =>
                  refine ⟨.tuple #[en.val, .bool true], by simp [execOp, hop, hmv, hkv, Instr.lookup, run_underlying hu, e1, run_checkKey _ hk2, Instr.findKey, run_underlying hd', hfind], .tup _ _ rfl (fun j x v hx hv => ?_)⟩
                  match j, hx, hv with
                  | 0, hx, hv => simp at hx hv; subst hx hv; exact hre
                  | 1, hx, hv => simp at hx hv; subst hx hv; exact .val _
                  | j + 2, hx, _ => simp at hx
                | false =>
                  exact ⟨en.val, by simp [execOp, hop, hmv, hkv, Instr.lookup, run_underlying hu, e1, run_checkKey _ hk2, Instr.findKey, run_underlying hd', hfind], hre⟩
            obtain ⟨v, m1, m2⟩ := main
            unfold Oper.wp
            rw [m1, Oper.upon_value]
            exact hcont _ w _ none D ⟨rfl, rfl⟩ (Below.refl _ _) (fun _ h => h) (fun b h => ⟨hD b h, .inl h⟩) m2 (fun id y h => by cases h)
        · rintro z nb ⟨rfl, rfl⟩
          refine ⟨fun id y h => (by cases h), ?_⟩
          simp only [FS.addB]
          rw [LS.fs_put]
          exact kk
      · cases h
    · cases h
  · cases h
end Copyhold
