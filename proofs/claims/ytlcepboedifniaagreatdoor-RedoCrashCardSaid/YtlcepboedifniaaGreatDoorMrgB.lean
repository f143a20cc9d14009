/- Walks over abstract states: the rules of code, what a function answers as data (FSpec), how a body's walk gives it. Over any program. No conditions beyond each law's own. Abstract states as lists, and what an operation makes of one, computed: operations that only look and compute. Over any program. No conditions beyond each law's own. -/
import Derived.Test.YtlcepboedifniaaGreatDoorAbs2
import Derived.Tactics
import Derived.ScopeJumps
set_option linter.unusedVariables false
namespace Copyhold
open Go Go.RowKit
def AWp (c : Cx) (P : Program) (code : Code) (Q : Exit → FS → Prop) (s : FS) : Prop :=
  ∀ a w, Rel c s a w → code.wp P (fun e a' w' => ∃ s', Q e s' ∧ Rel c s' a' w') a w
section
variable {c : Cx} {P : Program} {Q Q' : Exit → FS → Prop} {s s' : FS}
theorem AWp.mono {code : Code} (h : AWp c P code Q s) (hq : ∀ e s, Q e s → Q' e s) : AWp c P code Q' s :=
  fun a w hr => wp_mono (h a w hr) fun e a' w' ⟨s', q, r⟩ => ⟨s', hq _ _ q, r⟩
def Sub (x y : AV) : Prop := ∀ (D : Nat → Prop) (w : World) (v : Value), Ra D w x v → Ra D w y v
theorem Sub.refl (x : AV) : Sub x x := fun _ _ _ h => h
theorem Sub.trans {x y z : AV} (h : Sub x y) (k : Sub y z) : Sub x z := fun _ _ _ hx => k _ _ _ (h _ _ _ hx)
theorem Sub.any (x : AV) : Sub x .any := fun _ _ v _ => .any v
theorem Sub.nil (k : Nat) (t : Bool) : Sub (.val (.slice none 0 0)) (.sl k t []) := fun D w v h => by
  cases h
  exact .sl k t [] none 0 0 0 (fun _ _ => undef) (Nat.le_refl _) (fun _ => rfl) (fun h => absurd h (by simp)) (fun i e h => by simp at h) (fun i e j x h => by simp at h) (fun i e j x h => by simp at h)
theorem Sub.loose (k : Nat) (t : Bool) (xs : List (List AV)) : Sub (.sl k t xs) (.sl k false xs) := fun D w v h => by
  cases h with
  | sl k t xs A c b off vs h1 h2 h3 h4 h5 h6 => exact .sl k false xs A c b off vs h1 (fun h => by cases h) h3 h4 h5 h6
theorem Sub.agg {cs ds : List AV} (hl : cs.length = ds.length) (h : ∀ (j : Nat) (x y : AV), cs[j]? = some x → ds[j]? = some y → Sub x y) : Sub (.agg cs) (.agg ds) := fun D w v hv => by
  cases hv with
  | agg cs vs h1 h2 h3 =>
    refine .agg ds vs (by omega) h2 (fun j y v hy hv => ?_)
    have hj : j < cs.length := by have := (List.getElem?_eq_some_iff.1 hy).1; omega
    exact h j cs[j] y (List.getElem?_eq_getElem hj) hy D w v (h3 j cs[j] v (List.getElem?_eq_getElem hj) hv)
inductive SubB : Bx → Bx → Prop
  | refl (y : Bx) : SubB y y
  | box (b : Nat) (T : TypeId) (cs ds : List AV) : cs.length = ds.length → (∀ (j : Nat) (x y : AV), cs[j]? = some x → ds[j]? = some y → Sub x y) → SubB (.box b T cs) (.box b T ds)
theorem SubB.blk {y y' : Bx} (h : SubB y y') : y'.blk = y.blk := by cases h <;> rfl
theorem SubB.rep {y y' : Bx} (h : SubB y y') {D : Nat → Prop} {w : World} (hy : BoxR D w y) : BoxR D w y' := by
  cases h with
  | refl => exact hy
  | box b T cs ds hl hsub =>
    obtain ⟨vs, h3, h4, h5, h6⟩ := hy
    refine ⟨vs, h3, by omega, h5, fun j a v ha hv => ?_⟩
    have hj : j < cs.length := by have := (List.getElem?_eq_some_iff.1 ha).1; omega
    exact hsub j cs[j] a (List.getElem?_eq_getElem hj) ha D w v (h6 j cs[j] v (List.getElem?_eq_getElem hj) hv)
def FS.le' (s s' : FS) : Prop := (∀ t, Sub (s.tm t) (s'.tm t)) ∧ ∀ id y', s'.bx id = some y' → ∃ y, s.bx id = some y ∧ SubB y y'
theorem RelD.weaken' {D : Nat → Prop} {a : Act} {w : World} (h : RelD c D s a w) (hl : s.le' s') : RelD c D s' a w := by
  refine ⟨h.defers, h.size, h.below, h.dlt, h.old, fun t v hv => hl.1 t D w v (h.tm t v hv), fun id y' hy' => ?_, fun i j x y hx hy hij => ?_⟩
  · obtain ⟨y, hy, e⟩ := hl.2 id y' hy'
    obtain ⟨h1, h2⟩ := h.bx id y hy
    exact ⟨fun g hg => h1 g (e.blk ▸ hg), e.rep h2⟩
  · obtain ⟨x', hx', e1⟩ := hl.2 i x hx
    obtain ⟨y', hy', e2⟩ := hl.2 j y hy
    rw [e1.blk, e2.blk]
    exact h.apart i j x' y' hx' hy' hij
theorem AWp.weaken {code : Code} (hl : s.le' s') (h : AWp c P code Q s') : AWp c P code Q s := fun a w ⟨hc, D, hr⟩ => h a w ⟨hc, D, hr.weaken' hl⟩
theorem awp_skip (h : Q .normal s) : AWp c P .skip Q s := fun a w hr => wp_skip ⟨s, h, hr⟩
theorem awp_label {l : Nat} (h : Q .normal s) : AWp c P (.label l) Q s := fun a w hr => wp_label ⟨s, h, hr⟩
theorem awp_exit {id : Nat} (h : Q (.exit id) s) : AWp c P (.exit id) Q s := fun a w hr => wp_exit ⟨s, h, hr⟩
theorem awp_goto {l : Nat} (h : Q (.goto l) s) : AWp c P (.goto l) Q s := fun a w hr => wp_goto ⟨s, h, hr⟩
theorem awp_ret (h : Q .ret s) : AWp c P .ret Q s := fun a w hr => wp_ret ⟨s, h, hr⟩
def thenQ (K : FS → Prop) (Q : Exit → FS → Prop) : Exit → FS → Prop
  | .normal, s => K s
  | e, s => Q e s
theorem awp_seq {x y : Code} (h : AWp c P x (thenQ (AWp c P y Q) Q) s) : AWp c P (.seq x y) Q s := fun a w hr =>
  wp_seq (wp_mono (h a w hr) fun e a' w' ⟨s', q, r⟩ => by
    cases e with
    | normal => exact q a' w' r
    | _ => exact ⟨s', q, r⟩)
theorem awp_cond {o : Operand} {x y : Code} {b : Bool} (hn : ∀ t, o = .tmp t → t < c.n) (ho : s.ev o = .val (.bool b)) (h : AWp c P (if b then x else y) Q s) : AWp c P (.cond o x y) Q s := fun a w hr => by
  obtain ⟨hc, D, hR⟩ := hr
  have hv := hR.ev o hn
  rw [ho] at hv
  generalize hvv : a.eval o = v at hv
  cases hv
  exact wp_cond hvv (h a w ⟨hc, D, hR⟩)
def blockQ (id : Nat) (Q : Exit → FS → Prop) : Exit → FS → Prop
  | .exit i, s => bif Nat.beq i id then Q .normal s else Q (.exit i) s
  | e, s => Q e s
theorem awp_block {id : Nat} {x : Code} (h : AWp c P x (blockQ id Q) s) : AWp c P (.block id x) Q s := fun a w hr =>
  wp_block (wp_mono (h a w hr) fun e a' w' ⟨s', q, r⟩ => by
    cases e with
    | exit i =>
      simp only [Exit.inBlock, blockQ] at q ⊢
      cases hb : Nat.beq i id with
      | true =>
        rw [hb] at q
        rw [if_pos (Nat.eq_of_beq_eq_true hb)]
        exact ⟨s', q, r⟩
      | false =>
        rw [hb] at q
        rw [if_neg (fun e => by rw [e, Nat.beq_refl] at hb; cases hb)]
        exact ⟨s', q, r⟩
    | _ => exact ⟨s', q, r⟩)
theorem least_of {J : Nat → Prop} (h : ∃ n, J n) : ∃ n, J n ∧ ∀ m, J m → n ≤ m := by
  obtain ⟨n, hn⟩ := h
  induction n using Nat.strongRecOn with
  | _ n ih =>
    by_cases hm : ∃ m, m < n ∧ J m
    · obtain ⟨m, h1, h2⟩ := hm
      exact ih m h1 h2
    · exact ⟨n, hn, fun m hJ => Nat.le_of_not_lt fun hlt => hm ⟨m, hlt, hJ⟩⟩
open Classical in
theorem awp_loop {x : Code} (I : Nat → FS → Prop) {n0 : Nat} (h0 : I n0 s) (round : ∀ n s, I n s → AWp c P x (thenQ (fun s' => ∃ m, m < n ∧ I m s') Q) s) : AWp c P (.loop x) Q s := fun a w hr => by
  let J : Act → World → Nat → Prop := fun a w n => ∃ s, I n s ∧ Rel c s a w
  let μ : Act → World → Nat := fun a w => if h : ∃ n, J a w n then choose (least_of h) else 0
  refine wp_loop (fun a w => ∃ n, J a w n) μ ⟨n0, s, h0, hr⟩ fun a w hJ => ?_
  have hμ : μ a w = choose (least_of hJ) := dif_pos hJ
  obtain ⟨s1, hI, hr1⟩ := (choose_spec (least_of hJ)).1
  refine wp_mono (round _ _ hI a w hr1) fun e a' w' ⟨s', q, r⟩ => ?_
  cases e with
  | normal =>
    obtain ⟨m, hm, hIm⟩ := q
    have hJ' : ∃ n, J a' w' n := ⟨m, s', hIm, r⟩
    refine ⟨hJ', ?_⟩
    rw [hμ]
    have : μ a' w' = choose (least_of hJ') := dif_pos hJ'
    rw [this]
    exact Nat.lt_of_le_of_lt ((choose_spec (least_of hJ')).2 m ⟨s', hIm, r⟩) hm
  | _ => exact ⟨s', q, r⟩
theorem Rel.drawn {a : Act} {w : World} (h : Rel c s a w) : Rel c s a { w with drawn := w.drawn + 1 } := by
  obtain ⟨hc, D, h⟩ := h
  have hk : ∀ b, D b → b < w.heap.size → ({ w with drawn := w.drawn + 1 } : World).heap[b]? = w.heap[b]? := fun _ _ _ => rfl
  refine ⟨hc, D, h.defers, h.size, ⟨h.below.os, h.below.tape, h.below.output, h.below.size, h.below.block⟩, h.dlt, h.old, fun t v hv => (h.tm t v hv).frame (fun _ h => h) (Nat.le_refl _) hk, fun id x hx => ?_, h.apart⟩
  obtain ⟨h1, h3⟩ := h.bx id x hx
  exact ⟨h1, h3.frame (fun _ h => h) (Nat.le_refl _) hk (fun _ _ => rfl)⟩
theorem awp_region_draw {id : Nat} {ops : Array Oper} (ord : List Nat) (hm : P.follows .mixedOrders = true) (hs : slotsOk c.n ops = true) (ho : (okOrd P ops ord (Array.replicate ops.size false) && ord.length == ops.size) = true)
    (h : SeqR P ops (Q .normal) ord s) : AWp c P (.region id ops true) Q s := fun a w hr => by
  simp only [Bool.and_eq_true, beq_iff_eq] at ho
  refine wp_region_any hm ?_
  have h1 := okOrd_any ord _ s ho.1 h
  rw [ho.2] at h1
  exact aAny_sound (K := Q .normal) hs (fun s a w hk hr => ⟨s, hk, hr⟩) _ _ s a _ h1 hr.drawn
theorem seqR_ops {ops : Array Oper} (hs : slotsOk c.n ops = true) : ∀ (l : List Nat) (s : FS) (a : Act) (w : World), SeqR P ops (Q .normal) l s → Rel c s a w → wpOps P ops (fun e a' w' => ∃ s', Q e s' ∧ Rel c s' a' w') l a w
  | [], s, a, w, h, hr => ⟨s, h, hr⟩
  | i :: r, s, a, w, h, hr => by
    rw [wpOps_cons]
    exact wpOp_mono (fun a' w' ⟨s', h', hr'⟩ => seqR_ops hs r s' a' w' h' hr') (StepR.sound hs h hr)
theorem awp_region {id : Nat} {ops : Array Oper} (ord : List Nat) (hs : slotsOk c.n ops = true) (ho : (List.range ops.size == ord) = true) (h : SeqR P ops (Q .normal) ord s) : AWp c P (.region id ops false) Q s := fun a w hr => by
  refine wp_region ?_
  rw [beq_iff_eq.1 ho]
  exact seqR_ops hs ord s a w h hr
end
def RaAll (D : Nat → Prop) (w : World) (xs : List AV) (vs : Array Value) : Prop := xs.length = vs.size ∧ ∀ (j : Nat) (x : AV) (v : Value), xs[j]? = some x → vs[j]? = some v → Ra D w x v
def FSpec (P : Program) (f : FuncId) (args : List AV) (r : AV) : Prop :=
  ∀ (D : Nat → Prop) (w : World) (vs : Array Value), (∀ b, D b → b < w.heap.size) → RaAll D w args vs →
    Calls P f vs w (fun e w' => ∃ v, ∃ D' : Nat → Prop, e = .returned v ∧ Below w.heap.size w w' ∧ (∀ b, D b → D' b) ∧ (∀ b, D' b → b < w'.heap.size ∧ (D b ∨ w.heap.size ≤ b)) ∧ Ra D' w' r v)
theorem FSpec.sub {P : Program} {f : FuncId} {args args' : List AV} {r r' : AV} (h : FSpec P f args r) (hl : args'.length = args.length) (ha : ∀ (j : Nat) (x y : AV), args'[j]? = some x → args[j]? = some y → Sub x y) (hr : Sub r r') : FSpec P f args' r' := by
  intro D w vs hD hv
  refine (h D w vs hD ⟨by have := hv.1; omega, fun j y v hy hvj => ?_⟩).mono ?_
  · have hj : j < args'.length := by have := (List.getElem?_eq_some_iff.1 hy).1; omega
    exact ha j args'[j] y (List.getElem?_eq_getElem hj) hy D w v (hv.2 j args'[j] v (List.getElem?_eq_getElem hj) hvj)
  · rintro e w' ⟨v, D', rfl, h1, h2, h3, h4⟩
    exact ⟨v, D', rfl, h1, h2, h3, hr _ _ _ h4⟩
def allP : List Prop → Prop
  | [] => True
  | p :: r => p ∧ allP r
theorem allP_append {a b : List Prop} (h : allP (a ++ b)) : allP a ∧ allP b := by
  induction a with
  | nil => exact ⟨trivial, h⟩
  | cons p r ih => exact ⟨⟨h.1, (ih h.2).1⟩, (ih h.2).2⟩
def resCells (P : Program) (s : FS) : ResultVar → Option (List Prop × AV)
  | .tmp t => some ([], s.tm t)
  | .cell t ty =>
    match s.tm t, P.underlying ty, P.info? ty with
    | .ptr id b 0, some (.struct _), some i =>
      match s.bx id with
      | some (.box b' _ cs) => bif Nat.beq cs.length i.size then some ([b' = b], .agg cs) else none
      | _ => none
    | .ptr id b 0, some (.array _ _), some i =>
      match s.bx id with
      | some (.box b' _ cs) => bif Nat.beq cs.length i.size then some ([b' = b], .agg cs) else none
      | _ => none
    | .ptr id b 0, some _, some _ =>
      match s.bx id with
      | some (.box b' _ cs) =>
        match cs with
        | x :: _ => some ([b' = b], x)
        | [] => none
      | _ => none
    | _, _, _ => none
def resRun (tmps : Array Value) : ResultVar → Sem Value
  | .tmp t => pure (tmps.getD t undef)
  | .cell t ty => do loadVar ty (← asAddr (tmps.getD t undef))
theorem run_resVar {c : Cx} {D : Nat → Prop} {P : Program} {s : FS} {a : Act} {w : World} (h : RelD c D s a w) (rv : ResultVar) (x : AV) (hn : (match rv with | .tmp t => t | .cell t _ => t) < c.n) {ps : List Prop} (hx : resCells P s rv = some (ps, x)) (hp : allP ps) :
    ∃ v, (resRun a.tmps rv).run P w = .ok v w ∧ Ra D w x v := by
  cases rv with
  | tmp t =>
    simp only [resCells, Option.some.injEq, Prod.mk.injEq] at hx
    obtain ⟨rfl, rfl⟩ := hx
    exact ⟨_, rfl, h.ev (.tmp t) (fun t' e => by cases e; exact hn)⟩
  | cell t ty =>
    have hv := h.ev (.tmp t) (fun t' e => by cases e; exact hn)
    simp only [resCells] at hx
    have key : ∀ (id b : Nat) (d : TypeDesc) (i : TypeInfo), s.tm t = .ptr id b 0 → P.underlying ty = some d → P.info? ty = some i →
        a.tmps.getD t undef = .pointer (some ⟨b, 0, none⟩) := fun id b d i h1 h2 h3 => by
      simp only [FS.ev, h1] at hv
      generalize hvv : a.eval (.tmp t) = v at hv
      cases hv
      exact hvv
    have agg : ∀ (id b : Nat) (i : TypeInfo) (b' : Nat) (T : TypeId) (cs : List AV), s.tm t = .ptr id b 0 → P.info? ty = some i → s.bx id = some (.box b' T cs) → b' = b → cs.length = i.size → (isAgg ty).run P w = .ok true w → a.tmps.getD t undef = .pointer (some ⟨b, 0, none⟩) →
        ∃ v, (resRun a.tmps (.cell t ty)).run P w = .ok v w ∧ Ra D w (.agg cs) v := fun id b i b' T cs h1 h2 h3 h4 h5 h6 h7 => by
      obtain ⟨_, vs, g1, g2, g3, g4⟩ := h.bx id _ h3
      subst h4
      have hl := run_loadCells_list (P := P) (w := w) ⟨b', 0, none⟩ vs.toList (fun j v hv => by
        rw [add_plain', Nat.zero_add, g1.cell]
        simpa using hv)
      have hlen : vs.toList.length = i.size := by simp [g2, h5]
      rw [hlen] at hl
      refine ⟨.agg vs, ?_, .agg _ vs g2.symm g3 g4⟩
      simp [resRun, h7, asAddr, loadVar, h6, Go.sizeOf, typeInfo, h2, hl]
    split at hx
    · rename_i id b fs i h1 h2 h3
      split at hx
      · rename_i b' T cs hy
        cases hb : Nat.beq cs.length i.size with
        | false => rw [hb] at hx; cases hx
        | true =>
          rw [hb] at hx
          simp only [cond_true, Option.some.injEq, Prod.mk.injEq] at hx
          obtain ⟨rfl, rfl⟩ := hx
          exact agg id b i _ _ _ h1 h3 hy hp.1 (Nat.eq_of_beq_eq_true hb) (by simp [isAgg, run_underlying h2]) (key id b _ i h1 h2 h3)
      · cases hx
    · rename_i id b n e i h1 h2 h3
      split at hx
      · rename_i b' T cs hy
        cases hb : Nat.beq cs.length i.size with
        | false => rw [hb] at hx; cases hx
        | true =>
          rw [hb] at hx
          simp only [cond_true, Option.some.injEq, Prod.mk.injEq] at hx
          obtain ⟨rfl, rfl⟩ := hx
          exact agg id b i _ _ _ h1 h3 hy hp.1 (Nat.eq_of_beq_eq_true hb) (by simp [isAgg, run_underlying h2]) (key id b _ i h1 h2 h3)
      · cases hx
    · rename_i id b d i hns hna h1 h2 h3
      have hk := key id b d i h1 h2 h3
      split at hx
      · rename_i b' T cs hy
        split at hx
        · rename_i x0 cs
          simp only [Option.some.injEq, Prod.mk.injEq] at hx
          obtain ⟨rfl, rfl⟩ := hx
          have hc : b' = b := hp.1
          subst hc
          obtain ⟨_, vs, g1, g2, g3, g4⟩ := h.bx id _ hy
          have hlt : 0 < vs.size := by rw [g2]; simp
          have hcell : w.cell? ⟨b', 0, none⟩ = some vs[0] := by rw [g1.cell]; simp [hlt]
          have hagg : (isAgg ty).run P w = .ok false w := by
            have : ∀ d, P.underlying ty = some d → (isAgg ty).run P w = .ok (match d with | .struct _ => true | .array _ _ => true | _ => false) w := fun d hd => by
              simp [isAgg, run_underlying hd]
              cases d <;> simp
            rw [this d h2]
            cases d <;> first | rfl | (exact (hns _ rfl).elim) | (exact (hna _ rfl).elim) | (exact (hns _ _ rfl).elim) | (exact (hna _ _ rfl).elim)
          exact ⟨vs[0], by simp [resRun, hk, asAddr, loadVar, hagg, hcell], g4 0 _ vs[0] rfl (by simp [hlt])⟩
        · cases hx
      · cases hx
    · cases hx
def resOf : List AV → AV
  | [x] => x
  | xs => .tup xs
def resAll (P : Program) (s : FS) : List ResultVar → Option (List Prop × List AV)
  | [] => some ([], [])
  | rv :: r =>
    match resCells P s rv, resAll P s r with
    | some (ps, x), some (qs, xs) => some (ps ++ qs, x :: xs)
    | _, _ => none
def DoneR (P : Program) (F : Func) (r : AV) (s : FS) : Prop := ∃ ps xs, resAll P s F.results.toList = some (ps, xs) ∧ allP ps ∧ Sub (resOf xs) r
theorem run_resVars {c : Cx} {D : Nat → Prop} {P : Program} {s : FS} {a : Act} {w : World} (h : RelD c D s a w) : ∀ (rs : List ResultVar) (xs : List AV), (∀ rv ∈ rs, (match rv with | .tmp t => t | .cell t _ => t) < c.n) → (∃ ps, resAll P s rs = some (ps, xs) ∧ allP ps) →
    ∃ vs : List Value, (rs.mapM (resRun a.tmps)).run P w = .ok vs w ∧ xs.length = vs.length ∧ ∀ (j : Nat) (x : AV) (v : Value), xs[j]? = some x → vs[j]? = some v → Ra D w x v
  | [], xs, hn, hx => by
    obtain ⟨ps, hx, _⟩ := hx
    simp only [resAll, Option.some.injEq, Prod.mk.injEq] at hx
    obtain ⟨rfl, rfl⟩ := hx
    exact ⟨[], by simp, rfl, fun j x v h => by simp at h⟩
  | rv :: rs, xs, hn, hx => by
    obtain ⟨ps, hx, hp⟩ := hx
    simp only [resAll] at hx
    split at hx
    · rename_i ps1 x qs ys hr hrs
      simp only [Option.some.injEq, Prod.mk.injEq] at hx
      obtain ⟨rfl, rfl⟩ := hx
      obtain ⟨p1, p2⟩ := allP_append hp
      · skip
        obtain ⟨v, h1, h2⟩ := run_resVar h rv x (hn rv (by simp)) hr p1
        obtain ⟨vs, h3, h4, h5⟩ := run_resVars h rs ys (fun r hr => hn r (by simp [hr])) ⟨_, hrs, p2⟩
        refine ⟨v :: vs, ?_, by simp [h4], fun j y u hy hu => ?_⟩
        · rw [List.mapM_cons]
          simp only [Sem.run_bind, h1, Result.andThen_ok, h3]
          rfl
        · cases j with
          | zero =>
            simp at hy hu
            subst hy hu
            exact h2
          | succ j => exact h5 j y u (by simpa using hy) (by simpa using hu)
    · cases hx
theorem run_results {c : Cx} {D : Nat → Prop} {P : Program} {F : Func} {s : FS} {a : Act} {w : World} {r : AV} (h : RelD c D s a w) (hn : ∀ rv ∈ F.results.toList, (match rv with | .tmp t => t | .cell t _ => t) < c.n) (hd : DoneR P F r s) :
    ∃ v, (results F a.tmps).run P w = .ok v w ∧ Ra D w r v := by
  obtain ⟨ps, xs, hx, hp, hsub⟩ := hd
  obtain ⟨vs, h1, h2, h3⟩ := run_resVars h _ _ hn ⟨_, hx, hp⟩
  have hrun : (results F a.tmps).run P w = .ok (if h : vs.toArray.size = 1 then vs.toArray[0] else .tuple vs.toArray) w := by
    have e : results F a.tmps = (do
      let vs ← F.results.mapM (resRun a.tmps)
      pure (if h : vs.size = 1 then vs[0] else .tuple vs)) := rfl
    rw [e, Array.mapM_eq_mapM_toList]
    simp only [Sem.run_bind, map_eq_pure_bind]
    rw [h1]
    rfl
  refine ⟨_, hrun, hsub _ _ _ ?_⟩
  match xs, vs, h2, h3 with
  | [x], [v], _, h3 => exact h3 0 x v rfl rfl
  | [], [], _, _ => exact .tup [] _ rfl (fun j x v h => by simp at h)
  | x :: y :: xs, v :: u :: vs, h2, h3 =>
    rw [dif_neg (by simp)]
    exact .tup _ _ (by simpa using h2) (fun j x v hx hv => h3 j x v hx (by simpa using hv))
theorem spec_of {P : Program} {f : FuncId} {F : Func} {code : Code} {args : List AV} {r : AV} (hf : P.funcs[f]? = some F) (hb : F.body = some code) (hsz : args.length ≤ F.ntmps)
    (hn : (F.results.toList.all fun rv => decide ((match rv with | .tmp t => t | .cell t _ => t) < F.ntmps)) = true)
    (h : ∀ c : Cx, c.n = F.ntmps → AWp c P code (fun e s => (e = .normal ∨ e = .ret) ∧ DoneR P F r s) ⟨fun t => args.getD t .any, fun _ => none⟩) : FSpec P f args r := by
  intro D w vs hD hvs
  refine calls_of_wp hf hb ?_
  let c : Cx := ⟨w.heap.size, w, F.ntmps, D, fun _ => False⟩
  have hrel : Rel c ⟨fun t => args.getD t .any, fun _ => none⟩ { tmps := vs ++ Array.replicate (F.ntmps - vs.size) undef, defers := [] } w := by
    refine ⟨Nat.le_refl _, D, rfl, ?_, BelowL.refl (c := c), hD, ⟨fun _ h => h, fun _ h => .inl h⟩, fun t v hv => ?_, fun id x h => (by cases h), fun i j x y h => (by cases h)⟩
    · have := hvs.1
      simp [c]
      omega
    · by_cases ht : t < vs.size
      · rw [Array.getElem?_append_left ht] at hv
        have hta : t < args.length := by rw [hvs.1]; exact ht
        have := hvs.2 t args[t] v (List.getElem?_eq_getElem hta) hv
        simpa [List.getD, List.getElem?_eq_getElem hta] using this
      · have hta : args.length ≤ t := by rw [hvs.1]; omega
        have : args.getD t .any = .any := by simp [List.getD, List.getElem?_eq_none hta]
        simp only [this]
        exact .any v
  refine wp_mono (h c rfl _ _ hrel) fun e a' w' ⟨s', hq, hc, D', hR⟩ => ?_
  obtain ⟨he, hd⟩ := hq
  have hn' : ∀ rv ∈ F.results.toList, (match rv with | .tmp t => t | .cell t _ => t) < c.n := fun rv hrv => by
    have := List.all_eq_true.1 hn rv hrv
    simpa using this
  obtain ⟨v, hv, hrv⟩ := run_results hR hn' hd
  have key : ∃ v, ∃ D'' : Nat → Prop, Ending.returned v = .returned v ∧ True := ⟨v, D', rfl, trivial⟩
  have fin : (∃ u, ∃ D'' : Nat → Prop, Ending.returned v = .returned u ∧ Below w.heap.size w w' ∧ (∀ b, D b → D'' b) ∧ (∀ b, D'' b → b < w'.heap.size ∧ (D b ∨ w.heap.size ≤ b)) ∧ Ra D'' w' r u) :=
    ⟨v, D', rfl, hR.below.plain (fun _ h => h), hR.old.1, fun b hb => ⟨hR.dlt b hb, (hR.old.2 b hb).imp id fun h => h.resolve_right id⟩, hrv⟩
  rcases he with rfl | rfl
  · exact ⟨hR.defers, v, hv, fin⟩
  · exact ⟨hR.defers, v, hv, fin⟩
end Copyhold

set_option linter.unusedVariables false
namespace Copyhold
open Go Go.RowKit
structure LS where
  tm : List (Nat × AV)
  bx : List (Nat × Bx)
def lget : List (Nat × AV) → Nat → AV
  | [], _ => .any
  | (k, x) :: r, t => bif Nat.beq k t then x else lget r t
def bget : List (Nat × Bx) → Nat → Option Bx
  | [], _ => none
  | (k, x) :: r, t => bif Nat.beq k t then some x else bget r t
def lput : List (Nat × AV) → Nat → AV → List (Nat × AV)
  | [], t, x => [(t, x)]
  | (k, y) :: r, t, x => bif Nat.beq k t then (k, x) :: r else (k, y) :: lput r t x
def bput : List (Nat × Bx) → Nat → Bx → List (Nat × Bx)
  | [], t, x => [(t, x)]
  | (k, y) :: r, t, x => bif Nat.beq k t then (k, x) :: r else (k, y) :: bput r t x
def LS.fs (s : LS) : FS := ⟨lget s.tm, bget s.bx⟩
def LS.put (s : LS) (d : Option Tmp) (x : AV) : LS :=
  match d with
  | some d => { s with tm := lput s.tm d x }
  | none => s
def LS.setB (s : LS) (id : Nat) (y : Bx) : LS := { s with bx := bput s.bx id y }
def LS.ev (s : LS) : Operand → AV
  | .tmp t => lget s.tm t
  | .const v => .val v
  | .global g => .val (.pointer (some ⟨g, 0, none⟩))
  | .func f => .val (.func (.func f) #[] #[])
theorem nbeq {a b : Nat} (h : a ≠ b) : Nat.beq a b = false := by
  cases hb : Nat.beq a b
  · rfl
  · exact absurd (Nat.eq_of_beq_eq_true hb) h
theorem LS.fs_ev (s : LS) (y : Operand) : s.fs.ev y = s.ev y := by cases y <;> rfl
theorem lget_lput (l : List (Nat × AV)) (t : Nat) (x : AV) (u : Nat) : lget (lput l t x) u = if u = t then x else lget l u := by
  induction l with
  | nil =>
    simp only [lput, lget]
    by_cases h : u = t
    · simp [h]
    · have : Nat.beq t u = false := nbeq fun e => h e.symm
      simp [h, this]
  | cons p r ih =>
    obtain ⟨k, y⟩ := p
    simp only [lput]
    by_cases hk : k = t
    · subst hk
      simp only [Nat.beq_refl, cond_true, lget]
      by_cases h : u = k
      · simp [h]
      · have : Nat.beq k u = false := nbeq fun e => h e.symm
        simp [h, this]
    · have : Nat.beq k t = false := nbeq hk
      simp only [this, cond_false, lget, ih]
      by_cases hu : k = u
      · subst hu
        simp [hk]
      · have : Nat.beq k u = false := nbeq hu
        simp [this]
theorem bget_bput (l : List (Nat × Bx)) (t : Nat) (x : Bx) (u : Nat) : bget (bput l t x) u = if u = t then some x else bget l u := by
  induction l with
  | nil =>
    simp only [bput, bget]
    by_cases h : u = t
    · simp [h]
    · have : Nat.beq t u = false := nbeq fun e => h e.symm
      simp [h, this]
  | cons p r ih =>
    obtain ⟨k, y⟩ := p
    simp only [bput]
    by_cases hk : k = t
    · subst hk
      simp only [Nat.beq_refl, cond_true, bget]
      by_cases h : u = k
      · simp [h]
      · have : Nat.beq k u = false := nbeq fun e => h e.symm
        simp [h, this]
    · have : Nat.beq k t = false := nbeq hk
      simp only [this, cond_false, bget, ih]
      by_cases hu : k = u
      · subst hu
        simp [hk]
      · have : Nat.beq k u = false := nbeq hu
        simp [this]
theorem LS.fs_put (s : LS) (d : Option Tmp) (x : AV) : s.fs.put d x = (s.put d x).fs := by
  cases d with
  | none => rfl
  | some d =>
    simp only [LS.fs, FS.put, LS.put, FS.mk.injEq, and_true]
    funext t
    rw [lget_lput]
theorem LS.fs_setB (s : LS) (id : Nat) (y : Bx) : s.fs.setB id (some y) = (s.setB id y).fs := by
  simp only [LS.fs, FS.setB, LS.setB, FS.mk.injEq, true_and]
  funext t
  rw [bget_bput]
def isAggP (P : Program) (t : TypeId) : Option Bool :=
  match P.underlying t with
  | some (.struct _) | some (.array _ _) => some true
  | some _ => some false
  | none => none
def szP (P : Program) (t : TypeId) : Option Nat :=
  match P.info? t with
  | some i => some i.size
  | none => none
def fldP (P : Program) (st : TypeId) (f : Nat) : Option (Nat × TypeId) :=
  match P.underlying st with
  | some (.struct fs) =>
    match fs[f]? with
    | some fd =>
      match szP P fd.type with
      | some (_ + 1) => some (fd.offset, fd.type)
      | _ => none
    | none => none
  | _ => none
def elemP (P : Program) (t : TypeId) : Option TypeId :=
  match P.underlying t with
  | some (.slice e) => some e
  | _ => none
theorem isAggP_run {P : Program} {t : TypeId} {b : Bool} (h : isAggP P t = some b) (w : World) : (isAgg t).run P w = .ok b w := by
  unfold isAggP at h
  split at h
  · rename_i fs hu
    obtain rfl := Option.some.inj h
    simp [isAgg, run_underlying hu]
  · rename_i n e hu
    obtain rfl := Option.some.inj h
    simp [isAgg, run_underlying hu]
  · rename_i d hns hna hu
    obtain rfl := Option.some.inj h
    simp only [isAgg, Sem.run_bind, run_underlying hu, Result.andThen_ok]
    cases d <;> first | rfl | (exact (hns _ rfl).elim) | (exact (hna _ rfl).elim) | (exact (hns _ _ rfl).elim) | (exact (hna _ _ rfl).elim)
  · cases h
theorem szP_run {P : Program} {t : TypeId} {n : Nat} (h : szP P t = some n) (w : World) : (Go.sizeOf t).run P w = .ok n w := by
  unfold szP at h
  split at h
  · rename_i i hi
    obtain rfl := Option.some.inj h
    simp [Go.sizeOf, typeInfo, hi]
  · cases h
def cellsA : AV → Option (List AV)
  | .agg cs => some cs
  | .val (.agg vs) => bif vs.toList.all (·.oneCell') then some (vs.toList.map .val) else none
  | .val v => bif v.oneCell' then some [.val v] else none
  | .any | .tup _ => none
  | x => some [x]
theorem cellsA_ok {D : Nat → Prop} {w : World} {x : AV} {cs : List AV} {v : Value} (h : cellsA x = some cs) (hv : Ra D w x v) :
    v.cells.size = cs.length ∧ (∀ (j : Nat) (u : Value), v.cells[j]? = some u → u.oneCell' = true) ∧ ∀ (j : Nat) (a : AV) (u : Value), cs[j]? = some a → v.cells[j]? = some u → Ra D w a u := by
  have one : ∀ (u : Value) (a : AV), u.oneCell' = true → u.cells = #[u] → Ra D w a u → u.cells.size = [a].length ∧ (∀ (j : Nat) (z : Value), u.cells[j]? = some z → z.oneCell' = true) ∧ ∀ (j : Nat) (b : AV) (z : Value), [a][j]? = some b → u.cells[j]? = some z → Ra D w b z := by
    intro u a h1 h2 h3
    rw [h2]
    refine ⟨rfl, fun j z hz => ?_, fun j b z hb hz => ?_⟩
    · cases j with
      | zero => simp at hz; subst hz; exact h1
      | succ j => simp at hz
    · cases j with
      | zero => simp at hz hb; subst hz hb; exact h3
      | succ j => simp at hz
  cases hv with
  | agg cs' vs h1 h2 h3 =>
    simp only [cellsA, Option.some.injEq] at h
    subst h
    exact ⟨h1.symm, h2, h3⟩
  | val v =>
    cases v with
    | agg vs =>
      simp only [cellsA] at h
      cases ha : vs.toList.all (·.oneCell') with
      | false => rw [ha] at h; cases h
      | true =>
        rw [ha] at h
        obtain rfl := Option.some.inj h
        refine ⟨by simp [Value.cells], fun j u hu => ?_, fun j a u ha hu => ?_⟩
        · exact List.all_eq_true.1 ha u (by have := Array.mem_of_getElem? hu; simpa [Value.cells] using this)
        · simp only [List.getElem?_map, Array.getElem?_toList] at ha
          simp only [Value.cells] at hu
          rw [hu] at ha
          obtain rfl := Option.some.inj ha
          exact .val u
    | tuple vs => simp [cellsA, Value.oneCell'] at h
    | _ =>
      simp only [cellsA, Value.oneCell', cond_true, Option.some.injEq] at h
      subst h
      exact one _ _ rfl rfl (.val _)
  | any v => cases h
  | tup l vs h1 h2 => cases h
  | sl k t xs A c b off vs h1 h2 h3 h4 h5 h6 =>
    simp only [cellsA, Option.some.injEq] at h
    subst h
    exact one _ _ rfl rfl (.sl k t xs A c b off vs h1 h2 h3 h4 h5 h6)
  | dptr cs' b off vs h1 h2 h3 h4 =>
    simp only [cellsA, Option.some.injEq] at h
    subst h
    exact one _ _ rfl rfl (.dptr cs' b off vs h1 h2 h3 h4)
  | ptr id b off =>
    simp only [cellsA, Option.some.injEq] at h
    subst h
    exact one _ _ rfl rfl (.ptr id b off)
  | rw id n c A =>
    simp only [cellsA, Option.some.injEq] at h
    subst h
    exact one _ _ rfl rfl (.rw id n c A)
  | clo f caps vs h1 h2 =>
    simp only [cellsA, Option.some.injEq] at h
    subst h
    exact one _ _ rfl rfl (.clo f caps vs h1 h2)
  | mp es r es' clock h1 h2 h3 h4 h5 h6 =>
    simp only [cellsA, Option.some.injEq] at h
    subst h
    exact one _ _ rfl rfl (.mp es r es' clock h1 h2 h3 h4 h5 h6)
  | mref id r =>
    simp only [cellsA, Option.some.injEq] at h
    subst h
    exact one _ _ rfl rfl (.mref id r)
  | ep id b n cap k i off =>
    simp only [cellsA, Option.some.injEq] at h
    subst h
    exact one _ _ rfl rfl (.ep id b n cap k i off)
  | pre k xs i A c h1 h2 =>
    simp only [cellsA, Option.some.injEq] at h
    subst h
    exact one _ _ rfl rfl (.pre k xs i A c h1 h2)
  | rs id b n cap k lo h1 =>
    simp only [cellsA, Option.some.injEq] at h
    subst h
    exact one _ _ rfl rfl (.rs id b n cap k lo h1)
def partA (P : Program) (t : TypeId) (cs : List AV) : Option AV :=
  match isAggP P t with
  | some true =>
    match szP P t with
    | some n => bif Nat.ble n cs.length then some (.agg (cs.take n)) else none
    | none => none
  | some false => cs.head?
  | none => none
def CellsAt (D : Nat → Prop) (w : World) (b off : Nat) (cs : List AV) : Prop := ∀ (j : Nat) (x : AV), cs[j]? = some x → ∃ v, w.cell? ⟨b, off + j, none⟩ = some v ∧ v.oneCell' = true ∧ Ra D w x v
theorem CellsAt.drop {D : Nat → Prop} {w : World} {b off : Nat} {cs : List AV} (h : CellsAt D w b off cs) (k : Nat) : CellsAt D w b (off + k) (cs.drop k) := fun j x hx => by
  rw [List.getElem?_drop] at hx
  obtain ⟨v, h1, h2, h3⟩ := h (k + j) x hx
  exact ⟨v, by rw [Nat.add_assoc]; exact h1, h2, h3⟩
theorem CellsAt.values {D : Nat → Prop} {w : World} {b off : Nat} : ∀ {cs : List AV}, CellsAt D w b off cs → ∃ vs : List Value, vs.length = cs.length ∧ (∀ (j : Nat) (v : Value), vs[j]? = some v → w.cell? ⟨b, off + j, none⟩ = some v ∧ v.oneCell' = true) ∧ ∀ (j : Nat) (x : AV) (v : Value), cs[j]? = some x → vs[j]? = some v → Ra D w x v
  | [], _ => ⟨[], rfl, fun j v h => by simp at h, fun j x v h => by simp at h⟩
  | x :: cs, h => by
    obtain ⟨v, h1, h2, h3⟩ := h 0 x rfl
    obtain ⟨vs, g1, g2, g3⟩ := CellsAt.values (cs := cs) (off := off + 1) (fun j y hy => by
      obtain ⟨u, a1, a2, a3⟩ := h (j + 1) y (by simpa using hy)
      exact ⟨u, by rw [show off + 1 + j = off + (j + 1) from by omega]; exact a1, a2, a3⟩)
    refine ⟨v :: vs, by simp [g1], fun j u hu => ?_, fun j y u hy hu => ?_⟩
    · cases j with
      | zero => simp at hu; subst hu; exact ⟨h1, h2⟩
      | succ j =>
        have := g2 j u (by simpa using hu)
        rw [show off + 1 + j = off + (j + 1) from by omega] at this
        exact this
    · cases j with
      | zero => simp at hu hy; subst hu hy; exact h3
      | succ j => exact g3 j y u (by simpa using hy) (by simpa using hu)
theorem load_part {D : Nat → Prop} {P : Program} {w : World} {t : TypeId} {b off : Nat} {cs : List AV} {x : AV} (h : CellsAt D w b off cs) (hx : partA P t cs = some x) : ∃ v, (loadVar t ⟨b, off, none⟩).run P w = .ok v w ∧ Ra D w x v := by
  unfold partA at hx
  split at hx
  · rename_i ha
    split at hx
    · rename_i n hn
      cases hb : Nat.ble n cs.length with
      | false => rw [hb] at hx; cases hx
      | true =>
        rw [hb] at hx
        obtain rfl := Option.some.inj hx
        have hle := Nat.le_of_ble_eq_true hb
        obtain ⟨vs, h1, h2, h3⟩ := h.values
        have hl := run_loadCells_list (P := P) (w := w) ⟨b, off, none⟩ (vs.take n) (fun j v hv => by
          rw [add_plain']
          rw [List.getElem?_take] at hv
          split at hv
          · exact (h2 j v hv).1
          · cases hv)
        have hlen : (vs.take n).length = n := by rw [List.length_take]; omega
        rw [hlen] at hl
        refine ⟨.agg (vs.take n).toArray, ?_, .agg _ _ (by simp; omega) (fun j v hv => ?_) (fun j x v hx hv => ?_)⟩
        · simp [loadVar, isAggP_run ha, szP_run hn, hl]
        · rw [List.getElem?_toArray, List.getElem?_take] at hv
          split at hv
          · exact (h2 j v hv).2
          · cases hv
        · rw [List.getElem?_toArray, List.getElem?_take] at hv
          rw [List.getElem?_take] at hx
          split at hv
          · rename_i hj
            rw [if_pos hj] at hx
            exact h3 j x v hx hv
          · cases hv
    · cases hx
  · rename_i ha
    rw [List.head?_eq_getElem?] at hx
    obtain ⟨v, h1, h2, h3⟩ := h 0 x hx
    exact ⟨v, by simpa [loadVar, isAggP_run ha] using (show (load ⟨b, off, none⟩).run P w = .ok v w from by
      rw [Nat.add_zero] at h1
      simp [h1]), h3⟩
  · cases hx
theorem BoxR.cells {D : Nat → Prop} {w : World} {b : Nat} {T : TypeId} {cs : List AV} (h : BoxR D w (.box b T cs)) : CellsAt D w b 0 cs := fun j x hx => by
  obtain ⟨vs, h1, h2, h3, h4⟩ := h
  have hj : j < vs.size := by have := (List.getElem?_eq_some_iff.1 hx).1; omega
  exact ⟨vs[j], by rw [Nat.zero_add, h1.cell]; simp [hj], h3 j vs[j] (by simp [hj]), h4 j x vs[j] hx (by simp [hj])⟩
def rng : IntKind → Int → Prop
  | .i64, n => -9223372036854775808 ≤ n ∧ n ≤ 9223372036854775807
  | .u64, n => 0 ≤ n ∧ n ≤ 18446744073709551615
  | .i32, n => -2147483648 ≤ n ∧ n ≤ 2147483647
  | .u32, n => 0 ≤ n ∧ n ≤ 4294967295
  | .i16, n => -32768 ≤ n ∧ n ≤ 32767
  | .u16, n => 0 ≤ n ∧ n ≤ 65535
  | .i8, n => -128 ≤ n ∧ n ≤ 127
  | .u8, n => 0 ≤ n ∧ n ≤ 255
theorem rng_wrap {k : IntKind} {n : Int} (h : rng k n) : k.wrap n = n := by
  cases k <;> simp only [rng] at h <;> simp only [IntKind.wrap, IntKind.bits, IntKind.signed, Bool.false_and, Bool.true_and, decide_eq_true_eq, ge_iff_le, Bool.false_eq_true, if_false] <;> (try split) <;> omega
def binA (P : Program) (op : BinOp) (t : TypeId) (x y : AV) : Option (List Prop × AV) :=
  match op, x, y with
  | .add, .val (.int .i64 a), .val (.int .i64 b) => some ([rng .i64 (a + b)], .val (.int .i64 (a + b)))
  | .sub, .val (.int .i64 a), .val (.int .i64 b) => some ([rng .i64 (a - b)], .val (.int .i64 (a - b)))
  | .mul, .val (.int .i64 a), .val (.int .i64 b) => some ([rng .i64 (a * b)], .val (.int .i64 (a * b)))
  | .eql, .val (.int .i64 a), .val (.int .i64 b) => some ([], .val (.bool (a == b)))
  | .neq, .val (.int .i64 a), .val (.int .i64 b) => some ([], .val (.bool (a != b)))
  | .lss, .val (.int .i64 a), .val (.int .i64 b) => some ([], .val (.bool (decide (a < b))))
  | .leq, .val (.int .i64 a), .val (.int .i64 b) => some ([], .val (.bool (decide (a ≤ b))))
  | .gtr, .val (.int .i64 a), .val (.int .i64 b) => some ([], .val (.bool (decide (a > b))))
  | .geq, .val (.int .i64 a), .val (.int .i64 b) => some ([], .val (.bool (decide (a ≥ b))))
  | .eql, .val (.string ⟨⟨a⟩⟩), .val (.string ⟨⟨b⟩⟩) => some ([], .val (.bool (a == b)))
  | .neq, .val (.string ⟨⟨a⟩⟩), .val (.string ⟨⟨b⟩⟩) => some ([], .val (.bool (!(a == b))))
  | .lss, .val (.string ⟨⟨a⟩⟩), .val (.string ⟨⟨b⟩⟩) => some ([], .val (.bool (Op.bytesLess a b)))
  | .add, .val (.string ⟨⟨a⟩⟩), .val (.string ⟨⟨b⟩⟩) => some ([a.length + b.length ≤ 9223372036854775807], .val (.string ⟨⟨a ++ b⟩⟩))
  | .eql, .val (.bool a), .val (.bool b) => match P.underlying t with
    | some .bool => some ([], .val (.bool (a == b)))
    | _ => none
  | .neq, .val (.bool a), .val (.bool b) => match P.underlying t with
    | some .bool => some ([], .val (.bool (!(a == b))))
    | _ => none
  | _, _, _ => none
theorem run_equal_bool {P : Program} {w : World} {t : TypeId} (a b : Bool) (h : P.underlying t = some .bool) : (Op.equal t (.bool a) (.bool b)).run P w = .ok (a == b) w := by
  unfold Op.equal
  rw [show Op.maxDepth = 9999 + 1 from rfl, Op.equalIn]
  simp [run_underlying h]
theorem binA_ok {P : Program} {op : BinOp} {t : TypeId} {x y : AV} {ps : List Prop} {z : AV} (h : binA P op t x y = some (ps, z)) (hp : allP ps) {D : Nat → Prop} {w : World} {u v : Value} (hu : Ra D w x u) (hv : Ra D w y v) (xo yo : Operand) :
    ∃ r, ((do Go.eqGuard op t xo yo u v; Go.binOp op t u v) : Sem Value).run P w = .ok r w ∧ Ra D w z r := by
  unfold binA at h
  split at h <;> (try cases h) <;> cases hu <;> cases hv
  · exact ⟨_, by simp [eqGuard, binOp, Op.intArith, rng_wrap hp.1], .val _⟩
  · exact ⟨_, by simp [eqGuard, binOp, Op.intArith, rng_wrap hp.1], .val _⟩
  · exact ⟨_, by simp [eqGuard, binOp, Op.intArith, rng_wrap hp.1], .val _⟩
  · exact ⟨_, by simp [eqGuard, binOp, Op.intCmp], .val _⟩
  · exact ⟨_, by simp [eqGuard, binOp, Op.intCmp], .val _⟩
  · exact ⟨_, by simp [eqGuard, binOp, Op.intCmp], .val _⟩
  · exact ⟨_, by simp [eqGuard, binOp, Op.intCmp], .val _⟩
  · exact ⟨_, by simp [eqGuard, binOp, Op.intCmp], .val _⟩
  · exact ⟨_, by simp [eqGuard, binOp, Op.intCmp], .val _⟩
  · exact ⟨_, by simp [eqGuard, binOp, Op.stringOp], .val _⟩
  · exact ⟨_, by simp [eqGuard, binOp, Op.stringOp], .val _⟩
  · exact ⟨_, by simp [eqGuard, binOp, Op.stringOp], .val _⟩
  · rename_i a b
    exact ⟨_, by
      have : ¬ (9223372036854775807 < ((a.length : Int) + b.length)) := by have := hp.1; omega
      simp [eqGuard, binOp, Op.stringOp, IntKind.max, IntKind.bits, IntKind.signed, ByteArray.size, this]
      first | rfl | exact cat a b, .val _⟩
  · split at h
    · rename_i ht
      cases h
      exact ⟨_, by simp [eqGuard, binOp, run_equal_bool _ _ ht], .val _⟩
    · cases h
  · split at h
    · rename_i ht
      cases h
      exact ⟨_, by simp [eqGuard, binOp, run_equal_bool _ _ ht], .val _⟩
    · cases h
end Copyhold
