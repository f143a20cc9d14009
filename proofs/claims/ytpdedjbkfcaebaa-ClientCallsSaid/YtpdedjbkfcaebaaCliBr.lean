/- Layer 18's data of both kinds, one for the other; its contracts as ones over data. No conditions beyond the data's own bounds. -/
import Derived.Test.YtpdedjbkfcaebaaCliA
import Derived.Test.YtpdedjbkfcaebaaCliD
import Derived.Test.YtpdedjbkfcaebaaCliSa3
import Derived.Test.YtpdedjbkfcaebaaCliSame
import Derived.Test.YtpdedjbkfcaebaaCliFew
import Derived.Test.YtpdedjbkfcaebaaCliCat
set_option linter.unusedVariables false
namespace Go.Proofs.Ytpdedjbkfcaebaa
open Go.RowKit Copyhold
theorem repR_of {D : Nat → Prop} {w : World} {r : Rep} {cs : List Value} (ok : OkRep r) (h : CellsR D w (repA r) cs) : RepR w r cs := by
  obtain ⟨h1, h2⟩ := h
  obtain ⟨c0, c1, c2, c3, c4, c5, rfl⟩ := list6 h1
  have e0 := h2 0 _ c0 rfl rfl
  have e1 := h2 1 _ c1 rfl rfl
  have e2 := h2 2 _ c2 rfl rfl
  have e3 := h2 3 _ c3 rfl rfl
  have e4 := h2 4 _ c4 rfl rfl
  have e5 := h2 5 _ c5 rfl rfl
  cases e0; cases e1; cases e2; cases e3; cases e4
  exact ⟨c5, rfl, row_of_ra e5, ok⟩
theorem calR_of {D : Nat → Prop} {w : World} {c : Cal} {cs : List Value} (ok : OkCal c) (h : CellsR D w (calA c) cs) : CalR c cs := by
  obtain ⟨h1, h2⟩ := h
  obtain ⟨c0, c1, c2, c3, c4, c5, c6, c7, rfl⟩ := list8 h1
  have e0 := h2 0 _ c0 rfl rfl
  have e1 := h2 1 _ c1 rfl rfl
  have e2 := h2 2 _ c2 rfl rfl
  have e3 := h2 3 _ c3 rfl rfl
  have e4 := h2 4 _ c4 rfl rfl
  have e5 := h2 5 _ c5 rfl rfl
  have e6 := h2 6 _ c6 rfl rfl
  have e7 := h2 7 _ c7 rfl rfl
  cases e0; cases e1; cases e2; cases e3; cases e4; cases e5; cases e6; cases e7
  exact ⟨rfl, ok⟩
theorem repsIn_of {D : Nat → Prop} {w : World} {t : Bool} {l : List Rep} {v : Value} (h : Ra D w (.sl 6 t (l.map repA)) v) (ok : ∀ r ∈ l, OkRep r) : RepsIn w v l :=
  slOf_of_ra h (fun _ _ => rfl) (fun r hr cs hc => repR_of (ok r hr) hc)
theorem calsIn_of {D : Nat → Prop} {w : World} {t : Bool} {l : List Cal} {v : Value} (h : Ra D w (.sl 8 t (l.map calA)) v) (ok : ∀ c ∈ l, OkCal c) : CalsIn w v l :=
  slOf_of_ra h (fun _ _ => rfl) (fun r hr cs hc => calR_of (ok r hr) hc)
def OkJob (j : List Cal) : Prop := j.length ≤ 8796093022207 ∧ ∀ c ∈ j, OkCal c
def OkDon (d : Don) : Prop := I64 d.seq ∧ I64 d.e ∧ d.l.length ≤ 8796093022207 ∧ ∀ r ∈ d.l, OkRep r
def OkX (x : Cli) : Prop := OkCli x ∧ (∀ j ∈ x.jobs, OkJob j) ∧ (∀ d ∈ x.told, OkDon d) ∧ ∀ r ∈ x.now, OkRep r
theorem jobsIn_of {D : Nat → Prop} {w : World} {t : Bool} {l : List (List Cal)} {v : Value} (h : Ra D w (.sl 1 t (l.map jobA)) v) (ok : ∀ j ∈ l, OkJob j) : JobsIn w v l :=
  slOf_of_ra h (fun _ _ => rfl) (fun j hj cs hc => by
    obtain ⟨h1, h2⟩ := hc
    obtain ⟨c0, rfl⟩ := list1 h1
    exact ⟨c0, rfl, calsIn_of (h2 0 _ c0 rfl rfl) (ok j hj).2, (ok j hj).1⟩)
theorem donsIn_of {D : Nat → Prop} {w : World} {t : Bool} {l : List Don} {v : Value} (h : Ra D w (.sl 4 t (l.map donA)) v) (ok : ∀ d ∈ l, OkDon d) : DonsIn w v l :=
  slOf_of_ra h (fun _ _ => rfl) (fun d hd cs hc => by
    obtain ⟨h1, h2⟩ := hc
    obtain ⟨c0, c1, c2, c3, rfl⟩ := list4 h1
    have e0 := h2 0 _ c0 rfl rfl
    have e1 := h2 1 _ c1 rfl rfl
    have e2 := h2 2 _ c2 rfl rfl
    have e3 := h2 3 _ c3 rfl rfl
    cases e0; cases e1; cases e2
    obtain ⟨o1, o2, o3, o4⟩ := ok d hd
    exact ⟨c3, rfl, repsIn_of e3 o4, o3, o1, o2⟩)
theorem cliV_of {D : Nat → Prop} {w : World} {x : Cli} {v : Value} (h : Ra D w (.agg (cliA x)) v) (ok : OkX x) : CliV w v x := by
  cases h with
  | agg cs vs h1 h2 h3 =>
    obtain ⟨c0, c1, c2, c3, c4, c5, c6, c7, c8, rfl⟩ := array9_of h1.symm
    have e0 := h3 0 _ c0 rfl rfl
    have e1 := h3 1 _ c1 rfl rfl
    have e2 := h3 2 _ c2 rfl rfl
    have e3 := h3 3 _ c3 rfl rfl
    have e4 := h3 4 _ c4 rfl rfl
    have e5 := h3 5 _ c5 rfl rfl
    have e6 := h3 6 _ c6 rfl rfl
    have e7 := h3 7 _ c7 rfl rfl
    have e8 := h3 8 _ c8 rfl rfl
    cases e0; cases e1; cases e2; cases e4; cases e5; cases e6
    exact ⟨c3, c7, c8, rfl, jobsIn_of e3 ok.2.1, donsIn_of e7 ok.2.2.1, repsIn_of e8 ok.2.2.2, ok.1⟩
theorem repR_to {w : World} {r : Rep} {cs : List Value} (h : RepR w r cs) (D : Nat → Prop) (hD : ∀ b, b < w.heap.size → D b) : (∀ u ∈ cs, u.oneCell' = true) ∧ CellsR D w (repA r) cs ∧ OkRep r := by
  obtain ⟨nv, rfl, hrow, ok⟩ := h
  have hr := ra_of_row hrow D hD
  obtain ⟨A, c, rfl⟩ := hrow.shape
  refine ⟨fun u hu => ?_, ⟨rfl, fun j a u ha hu => ?_⟩, ok⟩
  · simp [repC] at hu
    rcases hu with rfl | rfl | rfl | rfl | rfl | rfl <;> rfl
  · match j, ha, hu with
    | 0, ha, hu => simp [repA, repC] at ha hu; subst ha hu; exact .val _
    | 1, ha, hu => simp [repA, repC] at ha hu; subst ha hu; exact .val _
    | 2, ha, hu => simp [repA, repC] at ha hu; subst ha hu; exact .val _
    | 3, ha, hu => simp [repA, repC] at ha hu; subst ha hu; exact .val _
    | 4, ha, hu => simp [repA, repC] at ha hu; subst ha hu; exact .val _
    | 5, ha, hu =>
      simp only [repA, repC, List.getElem?_cons_succ, List.getElem?_cons_zero, Option.some.injEq] at ha hu
      subst ha hu
      exact hr
    | j + 6, ha, hu => simp [repA] at ha
theorem calR_to {w : World} {c : Cal} {cs : List Value} (h : CalR c cs) (D : Nat → Prop) : (∀ u ∈ cs, u.oneCell' = true) ∧ CellsR D w (calA c) cs ∧ OkCal c := by
  obtain ⟨rfl, ok⟩ := h
  refine ⟨fun u hu => ?_, ⟨rfl, fun j a u ha hu => ?_⟩, ok⟩
  · simp [calC] at hu
    rcases hu with rfl | rfl | rfl | rfl | rfl | rfl | rfl | rfl <;> rfl
  · match j, ha, hu with
    | 0, ha, hu => simp [calA, calC] at ha hu; subst ha hu; exact .val _
    | 1, ha, hu => simp [calA, calC] at ha hu; subst ha hu; exact .val _
    | 2, ha, hu => simp [calA, calC] at ha hu; subst ha hu; exact .val _
    | 3, ha, hu => simp [calA, calC] at ha hu; subst ha hu; exact .val _
    | 4, ha, hu => simp [calA, calC] at ha hu; subst ha hu; exact .val _
    | 5, ha, hu => simp [calA, calC] at ha hu; subst ha hu; exact .val _
    | 6, ha, hu => simp [calA, calC] at ha hu; subst ha hu; exact .val _
    | 7, ha, hu => simp [calA, calC] at ha hu; subst ha hu; exact .val _
    | j + 8, ha, hu => simp [calA] at ha
theorem slOf_mem {α : Type} {R : α → List Value → Prop} {w : World} {k : Nat} {v : Value} {l : List α} (h : SlOf R w k v l) {x : α} (hx : x ∈ l) : ∃ cs, R x cs := by
  obtain ⟨css, h1, h2, h3⟩ := h
  obtain ⟨i, hi, rfl⟩ := List.mem_iff_getElem.1 hx
  exact ⟨_, (h3 i _ _ (List.getElem?_eq_getElem (by omega)) (List.getElem?_eq_getElem hi)).2⟩
theorem repsIn_to {w : World} {l : List Rep} {v : Value} (h : RepsIn w v l) (D : Nat → Prop) (hD : ∀ b, b < w.heap.size → D b) : Ra D w (.sl 6 false (l.map repA)) v ∧ ∀ r ∈ l, OkRep r :=
  ⟨ra_of_slOf h D hD (fun r _ cs _ hr => ⟨(repR_to hr D hD).1, (repR_to hr D hD).2.1⟩), fun r hr => by
    obtain ⟨cs, hc⟩ := slOf_mem h hr
    exact (repR_to hc D hD).2.2⟩
theorem calsIn_to {w : World} {l : List Cal} {v : Value} (h : CalsIn w v l) (D : Nat → Prop) (hD : ∀ b, b < w.heap.size → D b) : Ra D w (.sl 8 false (l.map calA)) v ∧ ∀ r ∈ l, OkCal r :=
  ⟨ra_of_slOf h D hD (fun r _ cs _ hr => ⟨(calR_to (w := w) hr D).1, (calR_to (w := w) hr D).2.1⟩), fun r hr => by
    obtain ⟨cs, hc⟩ := slOf_mem h hr
    exact hc.2⟩
theorem slice_one {α : Type} {R : α → List Value → Prop} {w : World} {k : Nat} {v : Value} {xs : List α} (h : SlOf R w k v xs) : v.oneCell' = true := by
  obtain ⟨A, c, rfl⟩ := h.shape
  rfl
theorem jobsIn_to {w : World} {l : List (List Cal)} {v : Value} (h : JobsIn w v l) (D : Nat → Prop) (hD : ∀ b, b < w.heap.size → D b) : Ra D w (.sl 1 false (l.map jobA)) v ∧ ∀ j ∈ l, OkJob j := by
  refine ⟨ra_of_slOf h D hD (fun j _ cs _ hj => ?_), fun j hj => ?_⟩
  · obtain ⟨jv, rfl, h1, h2⟩ := hj
    refine ⟨fun u hu => by simp at hu; subst hu; exact slice_one h1, rfl, fun i a u ha hu => ?_⟩
    match i, ha, hu with
    | 0, ha, hu =>
      simp only [jobA, List.getElem?_cons_zero, Option.some.injEq] at ha hu
      subst ha hu
      exact (calsIn_to h1 D hD).1
    | i + 1, ha, hu => simp [jobA] at ha
  · obtain ⟨cs, jv, rfl, h1, h2⟩ := slOf_mem h hj
    exact ⟨h2, (calsIn_to h1 D hD).2⟩
theorem donsIn_to {w : World} {l : List Don} {v : Value} (h : DonsIn w v l) (D : Nat → Prop) (hD : ∀ b, b < w.heap.size → D b) : Ra D w (.sl 4 false (l.map donA)) v ∧ ∀ d ∈ l, OkDon d := by
  refine ⟨ra_of_slOf h D hD (fun d _ cs _ hd => ?_), fun d hd => ?_⟩
  · obtain ⟨lv, rfl, h1, h2, h3, h4⟩ := hd
    refine ⟨fun u hu => ?_, rfl, fun i a u ha hu => ?_⟩
    · simp at hu
      rcases hu with rfl | rfl | rfl | rfl
      · rfl
      · rfl
      · rfl
      · exact slice_one h1
    · match i, ha, hu with
      | 0, ha, hu => simp [donA] at ha hu; subst ha hu; exact .val _
      | 1, ha, hu => simp [donA] at ha hu; subst ha hu; exact .val _
      | 2, ha, hu => simp [donA] at ha hu; subst ha hu; exact .val _
      | 3, ha, hu =>
        simp only [donA, List.getElem?_cons_succ, List.getElem?_cons_zero, Option.some.injEq] at ha hu
        subst ha hu
        exact (repsIn_to h1 D hD).1
      | i + 4, ha, hu => simp [donA] at ha
  · obtain ⟨cs, lv, rfl, h1, h2, h3, h4⟩ := slOf_mem h hd
    exact ⟨h3, h4, h2, (repsIn_to h1 D hD).2⟩
theorem cliV_to {w : World} {x : Cli} {v : Value} (h : CliV w v x) (D : Nat → Prop) (hD : ∀ b, b < w.heap.size → D b) : Ra D w (.agg (cliA x)) v ∧ OkX x := by
  obtain ⟨jv, tv, nv, rfl, h1, h2, h3, ok⟩ := h
  obtain ⟨j1, j2⟩ := jobsIn_to h1 D hD
  obtain ⟨t1, t2⟩ := donsIn_to h2 D hD
  obtain ⟨n1, n2⟩ := repsIn_to h3 D hD
  refine ⟨.agg _ _ rfl (fun j v hv => ?_) (fun j a v ha hv => ?_), ok, j2, t2, n2⟩
  · match j, hv with
    | 0, hv => simp [cliC] at hv; subst hv; rfl
    | 1, hv => simp [cliC] at hv; subst hv; rfl
    | 2, hv => simp [cliC] at hv; subst hv; rfl
    | 3, hv => simp [cliC] at hv; subst hv; exact slice_one h1
    | 4, hv => simp [cliC] at hv; subst hv; rfl
    | 5, hv => simp [cliC] at hv; subst hv; rfl
    | 6, hv => simp [cliC] at hv; subst hv; rfl
    | 7, hv => simp [cliC] at hv; subst hv; exact slice_one h2
    | 8, hv => simp [cliC] at hv; subst hv; exact slice_one h3
    | j + 9, hv => simp [cliC] at hv
  · match j, ha, hv with
    | 0, ha, hv => simp [cliC, cliA] at ha hv; subst ha hv; exact .val _
    | 1, ha, hv => simp [cliC, cliA] at ha hv; subst ha hv; exact .val _
    | 2, ha, hv => simp [cliC, cliA] at ha hv; subst ha hv; exact .val _
    | 3, ha, hv => simp [cliC, cliA] at ha hv; subst ha hv; exact j1
    | 4, ha, hv => simp [cliC, cliA] at ha hv; subst ha hv; exact .val _
    | 5, ha, hv => simp [cliC, cliA] at ha hv; subst ha hv; exact .val _
    | 6, ha, hv => simp [cliC, cliA] at ha hv; subst ha hv; exact .val _
    | 7, ha, hv => simp [cliC, cliA] at ha hv; subst ha hv; exact t1
    | 8, ha, hv => simp [cliC, cliA] at ha hv; subst ha hv; exact n1
    | j + 9, ha, hv => simp [cliC] at hv
theorem few_spec (x : Cli) (ok : OkX x) : FSpec Try.prog 20 [.agg (cliA x)] (aB (fewB x)) := fspec_val fun D w vs h => by
  obtain ⟨v, rfl, hv⟩ := h.one
  exact ref18_Few x v w (cliV_of hv ok)
theorem msg_spec {f : FuncId} {x : Cli} {m : Msg × Bool} (ok : OkX x) (h : ∀ v w, CliV w v x → Calls Try.prog f #[v] w (RetMsg w m)) : FSpec Try.prog f [.agg (cliA x)] (.tup [.agg (msgA m.1), aB m.2]) := by
  intro D w vs hD hv
  obtain ⟨v, rfl, hv2⟩ := hv.one
  refine (h v w (cliV_of hv2 ok)).mono ?_
  rintro e w' ⟨rfl, hb⟩
  refine ⟨_, D, rfl, hb, fun _ h => h, fun b h => ⟨Nat.lt_of_lt_of_le (hD b h) hb.size, .inl h⟩, .tup _ _ rfl (fun j a u ha hu => ?_)⟩
  match j, ha, hu with
  | 0, ha, hu =>
    simp at ha hu
    subst ha hu
    have e : Sub (.val (.agg (msgC m.1).toArray)) (.agg ((msgC m.1).toArray.toList.map .val)) := Sub.aggVal _ (fun j v hv => by
      have hm : v ∈ (msgC m.1) := by simpa using List.mem_of_getElem? (by simpa using hv : (msgC m.1)[j]? = some v)
      simp [msgC] at hm
      rcases hm with rfl | rfl | rfl | rfl | rfl | rfl | rfl | rfl | rfl | rfl | rfl | rfl | rfl | rfl <;> rfl)
    exact e D w' _ (.val _)
  | 1, ha, hu => simp at ha hu; subst ha hu; exact .val _
  | j + 2, ha, hu => simp at ha
theorem say_spec (x : Cli) (ok : OkX x) (hr : RightP x) (hn : x.now.length ≤ 1000) : FSpec Try.prog 12 [.agg (cliA x)] (.tup [.agg (msgA (sayD x).1), aB (sayD x).2]) := msg_spec ok fun v w h => client_Say x v w h hr hn
theorem asks_spec (x : Cli) (ok : OkX x) (hr : RightP x) : FSpec Try.prog 14 [.agg (cliA x)] (.tup [.agg (msgA (asksD x).1), aB (asksD x).2]) := msg_spec ok fun v w h => client_Asks x v w h hr
theorem grow_row {P : Program} {f : FuncId} {e k : Nat} {n : Nat} (h : ∀ w, Calls P f #[.slice none 0 0, .int .i64 (n : Int)] w (RetOwn w e k 0 [])) : RowSpec P f [aN, aI (n : Int)] e k [] := by
  intro D w vs hD hv
  obtain ⟨u, v, rfl, hu, hv2⟩ := hv.two
  cases hu
  cases hv2
  refine (h w).mono ?_
  rintro r w' ⟨V, rfl, hown, hb⟩
  exact ⟨V, [], rfl, hb, hown, by simp, fun j a u ha => by simp at ha⟩
end Go.Proofs.Ytpdedjbkfcaebaa
