/- ref01.Long; records that are the same. RedoRecords over data. What comes in, by its type: an abstract value that describes it. Over any program. No conditions beyond each law's own. What RedoRecords is asked of. -/
import Derived.Test.YtlcepboedifniaaDoorMrgM
import Derived.Test.YtlcepboedifniaaDoorMrgG
import Derived.Test.YtlcepboedifniaaDoorRows
set_option linter.unusedVariables false
set_option linter.unusedSimpArgs false
namespace Go.Proofs.YtlcepboedifniaaDoor
open Go Go.RowKit Copyhold Copyhold.Disk
def longK (l : List Txt) (k : Nat) : Nat := l.length + ((l.take k).map List.length).sum
theorem longK_step {l : List Txt} {k : Nat} {x : Txt} (h : l[k]? = some x) : longK l (k + 1) = longK l k + x.length := by
  unfold longK
  rw [List.take_add_one, h]
  simp
  omega
theorem longK_le (l : List Txt) (b : Nat) (h : ∀ x ∈ l, x.length ≤ b) : ∀ k, longK l k ≤ l.length + k * b
  | 0 => by simp [longK]
  | k + 1 => by
    have ih := longK_le l b h k
    rw [Nat.succ_mul]
    cases e : l[k]? with
    | none =>
      have : longK l (k + 1) = longK l k := by unfold longK; rw [List.take_add_one, e]; simp
      omega
    | some x =>
      have := longK_step e
      have := h x (List.mem_of_getElem? e)
      omega
theorem num8_inj {n m : Int} (hn : U64 n) (hm : U64 m) (h : num8 n = num8 m) : n = m := by
  have hb : ∀ i, i < 8 → n.toNat / 2 ^ (8 * i) % 256 = m.toNat / 2 ^ (8 * i) % 256 := fun i hi => by
    have e : (num8 n)[i]? = (num8 m)[i]? := by rw [h]
    simp only [num8, List.getElem?_map, List.getElem?_range hi, Option.map_some, Option.some.injEq] at e
    have e2 := congrArg UInt8.toNat e
    simp only [UInt8.toNat_ofNat'] at e2
    omega
  have h0 := hb 0 (by decide)
  have h1 := hb 1 (by decide)
  have h2 := hb 2 (by decide)
  have h3 := hb 3 (by decide)
  have h4 := hb 4 (by decide)
  have h5 := hb 5 (by decide)
  have h6 := hb 6 (by decide)
  have h7 := hb 7 (by decide)
  have a1 := hn.1
  have a2 := hn.2
  have a3 := hm.1
  have a4 := hm.2
  simp only [Nat.mul_zero, Nat.mul_one, Nat.reduceMul, Nat.reducePow, Nat.div_one] at h0 h1 h2 h3 h4 h5 h6 h7
  omega
theorem textB_inj {s t : Txt} (hs : s.length ≤ 1000000) (ht : t.length ≤ 1000000) (h : textB s = textB t) : s = t := by
  have h1 := takeText_textB s 1000000 [] (by omega)
  have h2 := takeText_textB t 1000000 [] (by omega)
  rw [if_neg (by omega)] at h1 h2
  rw [h, h2] at h1
  exact (congrArg (·.1) h1).symm
theorem rec_inj {n m : Int} {s t : Txt} (hn : U64 n) (hm : U64 m) (hs : s.length ≤ 1000000) (ht : t.length ≤ 1000000) (h : recB n s = recB m t) : n = m ∧ s = t := by
  have hl := congrArg List.length h
  rw [recB_len, recB_len] at hl
  have h1 := (List.append_inj (s₁ := num8 n ++ textB s) (s₂ := num8 m ++ textB t) h (by rw [List.length_append, List.length_append, num8_len, num8_len]; omega)).1
  have h2 := List.append_inj h1 (by rw [num8_len, num8_len])
  exact ⟨num8_inj hn hm h2.1, textB_inj hs ht h2.2⟩
set_option maxRecDepth 100000 in
set_option maxHeartbeats 4000000 in
theorem long_spec (l : List Txt) (b : Nat) (hb : ∀ x ∈ l, x.length ≤ b) (hl : l.length ≤ 1000000) (hm : l.length * b ≤ 1000000000000) : FSpec Tryd.prog 16 [.sl 1 false (l.map txA)] (aI (longK l l.length : Int)) := by
  exact spec_vd Tryd.func16 (
 .r 1 <| .r 2 <| .lm 6 l txA <| .r 1 <| .r 1 <| let L1 : Lp (Nat) := ⟨fun a1 => ⟨[(0, .sl 1 false (l.map txA)), (4, aI (a1 : Int)), (3, aI (longK l a1 : Int))], []⟩, fun a1 => l.length - a1, fun a1 => a1 ≤ l.length⟩
 .lp L1 0 (show 0 ≤ l.length from Nat.zero_le _) [(4, aI 0), (3, aI (l.length : Int))] [] ⟨Sub.refl _, sO, Sub.of_eq (congrArg aI (by simp [longK])), trivial⟩ trivial fun a1 ha1 =>
 (fun (k : Nat) (hH1 : k ≤ l.length) => have hlk := longK_le l b hb k; have hkb : k * b ≤ l.length * b := Nat.mul_le_mul_right b hH1; .r 3 <| .lm 9 l txA <| .r 1 <| .bd 10 ((k : Int) < (l.length : Int)) (fun p1 => .r 3 <| .idxM l txA k (m := (k : Int)) rfl (by omega) fun x1 hx1 =>
 have hls := longK_step hx1; have hl2 := longK_le l b hb (k + 1); have hl3 : (k + 1) * b ≤ l.length * b := Nat.mul_le_mul_right b (List.getElem?_eq_some_iff.1 hx1).1; .run 4 [rng .i64 ((longK l k : Int) + ((x1).length : Int))] ⟨rng64 (by omega) (by omega), trivial⟩ <|
 .run 3 [rng .i64 ((k : Int) + 1)] ⟨rng64 (by omega) (by omega), trivial⟩ <|
 .bk L1 k (k + 1) (show (k + 1) ≤ l.length from (by show _ ≤ _; omega)) (show l.length - (k + 1) < l.length - k from (by omega)) [(4, aI ((k : Int) + 1)), (3, aI ((longK l k : Int) + ((x1).length : Int)))] [] ⟨Sub.refl _, sO, Sub.of_eq (congrArg aI (by show _ = ((longK l (k + 1) : Nat) : Int); rw [longK_step hx1]; omega)), trivial⟩ trivial)
 <| fun p1 => .r 2 <| .f (aI (longK l l.length : Int)) [] (aI (longK l k : Int)) (by exact Sub.of_eq (by rw [show l.length = k from by omega]))) a1 ha1)
end Go.Proofs.YtlcepboedifniaaDoor

set_option linter.unusedVariables false
set_option linter.unusedSimpArgs false
namespace Go.Proofs.YtlcepboedifniaaDoor
open Go Go.RowKit Copyhold Copyhold.Disk
structure Rcs where
  n : Int
  m : Int
  s : Txt
  t : Txt
def rcsA (a : Rcs) : List AV := [.val (.int .u64 a.n), .val (.int .u64 a.m), aS a.s, aS a.t]
structure OkRcs (a : Rcs) : Prop where
  n : U64 a.n
  m : U64 a.m
  s : a.s.length ≤ 140737488351232
  t : a.t.length ≤ 140737488351232
theorem rec_yes {n m : Int} {s t : Txt} (hn : U64 n) (hm : U64 m) (hs : s.length ≤ 1000000) (ht : t.length ≤ 1000000) (q : (n == m) = true) : ((recB n s == recB m t) == (s == t)) = true := by
  have e : n = m := by simpa using q
  subst e
  by_cases hst : s = t
  · subst hst
    simp
  · have : ¬ recB n s = recB n t := fun h => hst (rec_inj hn hn hs ht h).2
    rw [beq_eq_false_iff_ne.2 this, beq_eq_false_iff_ne.2 hst]
    rfl
theorem rec_no {n m : Int} {s t : Txt} (hn : U64 n) (hm : U64 m) (hs : s.length ≤ 1000000) (ht : t.length ≤ 1000000) (q : (n == m) = false) : ((recB n s == recB m t) == false) = true := by
  have e : ¬ n = m := by simpa using q
  have : ¬ recB n s = recB m t := fun h => e (rec_inj hn hm hs ht h).1
  rw [beq_eq_false_iff_ne.2 this]
  rfl
theorem need_eq (n : Int) (s : Txt) : ((needB s : Int) == (((recB n s).length : Int) + 63) / 64) = true := by
  rw [beq_iff_eq]
  unfold needB sec
  rw [recB_len, recB_len]
  omega
theorem long_one (a : Txt) : longK [a] [a].length = a.length + 1 := by
  simp [longK]
  omega
set_option maxRecDepth 100000 in
set_option maxHeartbeats 4000000 in
theorem redoRecords_spec (a : Rcs) (h : OkRcs a) : FSpec Tryd.prog 6 [.agg [.val (.int .u64 a.n), .val (.int .u64 a.m), aS a.s, aS a.t]] (aB true) := by
  have ls := h.s
  have lt := h.t
  have hl1 := recB_len a.n a.s
  have hl2 := recB_len a.m a.t
  have ht1 := textB_len a.s (by omega)
  have ht2 := textB_len a.t (by omega)
  exact spec_vd Tryd.func6 (
 .new fun b1 => .r 1 <| .u 3 [b1] <|
 .u 3 [b1] <|
 .u 3 [b1] <|
 .u 3 [b1] <|
 .call (shown5) <|
 .r 1 <| .run 6 [rng .i64 (((a.s).length : Int) + ((a.t).length : Int))] ⟨rng64 (by omega) (by omega), trivial⟩ <|
 .bd 24 ((((a.s).length : Int) + ((a.t).length : Int)) > 4000) (fun p1 => .r 2 <| .f (aB true) [] (aB true) (by exact Sub.of_eq (by first | rfl | (refine congrArg aB ?_; rw [long_one]; simp; done))))
 <| fun p1 => .r 2 <| .call (record_spec a.n a.s h.n (by omega)) <|
 .r 1 <| .r 2 <| .call (record_spec a.m a.t h.m (by omega)) <|
 .r 1 <| .r 7 <| .binV .eql 28 (eqlN (k := .u64) (a := a.n) (b := a.m)) <|
 .r 1 <| .br 40 (a.n == a.m) (fun q2 => have p2 := beqT q2; .r 7 <| .is 47 (show (((recB a.n a.s) == (recB a.m a.t)) == (a.s == a.t)) = true from (rec_yes h.n h.m (by omega) (by omega) q2)) <| .run 8 [rng .i64 (((a.s).length : Int) + 13)] ⟨rng64 (by omega) (by omega), trivial⟩ <|
 .is 55 (show (decide ((((recB a.n a.s)).length : Int) ≥ (((a.s).length : Int) + 13))) = true from (decide_eq_true (by omega))) <| .r 1 <| .call (need_spec a.s (by omega)) <|
 .run 3 [rng .i64 ((((recB a.n a.s)).length : Int) + 63)] ⟨rng64 (by omega) (by omega), trivial⟩ <|
 .binV .quo 3 (quoN (a := (((recB a.n a.s)).length : Int) + 63) (b := 64) (by omega) (by omega) (by omega)) <|
 .r 3 <| .is 64 (show ((needB a.s : Int) == (((((recB a.n a.s)).length : Int) + 63) / 64)) = true from (need_eq a.n a.s)) <| .r 2 <| .cs (args0 := [.sl 1 true ([[aS (recB a.n a.s)]])]) (long_spec [(recB a.n a.s)] 2000000 (by intro x hx; rw [List.mem_singleton.1 hx]; omega) (by show 1 ≤ 1000000; decide) (by show 1 * 2000000 ≤ 1000000000000; decide)) ⟨Sub.loose _ _ _, trivial⟩ <|
 .run 6 [rng .i64 ((((recB a.n a.s)).length : Int) + 1)] ⟨rng64 (by omega) (by omega), trivial⟩ <|
 .f (aB true) [] (aB ((longK [(recB a.n a.s)] [(recB a.n a.s)].length : Int) == ((((recB a.n a.s)).length : Int) + 1))) (by exact Sub.of_eq (by first | rfl | (refine congrArg aB ?_; rw [long_one]; simp; done))))
 <| fun q2 => have p2 := beqF q2; .r 7 <| .is 47 (show (((recB a.n a.s) == (recB a.m a.t)) == false) = true from (rec_no h.n h.m (by omega) (by omega) q2)) <| .run 8 [rng .i64 (((a.s).length : Int) + 13)] ⟨rng64 (by omega) (by omega), trivial⟩ <|
 .is 55 (show (decide ((((recB a.n a.s)).length : Int) ≥ (((a.s).length : Int) + 13))) = true from (decide_eq_true (by omega))) <| .r 1 <| .call (need_spec a.s (by omega)) <|
 .run 3 [rng .i64 ((((recB a.n a.s)).length : Int) + 63)] ⟨rng64 (by omega) (by omega), trivial⟩ <|
 .binV .quo 3 (quoN (a := (((recB a.n a.s)).length : Int) + 63) (b := 64) (by omega) (by omega) (by omega)) <|
 .r 3 <| .is 64 (show ((needB a.s : Int) == (((((recB a.n a.s)).length : Int) + 63) / 64)) = true from (need_eq a.n a.s)) <| .r 2 <| .cs (args0 := [.sl 1 true ([[aS (recB a.n a.s)]])]) (long_spec [(recB a.n a.s)] 2000000 (by intro x hx; rw [List.mem_singleton.1 hx]; omega) (by show 1 ≤ 1000000; decide) (by show 1 * 2000000 ≤ 1000000000000; decide)) ⟨Sub.loose _ _ _, trivial⟩ <|
 .run 6 [rng .i64 ((((recB a.n a.s)).length : Int) + 1)] ⟨rng64 (by omega) (by omega), trivial⟩ <|
 .f (aB true) [] (aB ((longK [(recB a.n a.s)] [(recB a.n a.s)].length : Int) == ((((recB a.n a.s)).length : Int) + 1))) (by exact Sub.of_eq (by first | rfl | (refine congrArg aB ?_; rw [long_one]; simp; done))))
end Go.Proofs.YtlcepboedifniaaDoor

set_option linter.unusedVariables false
set_option linter.unusedSimpArgs false
namespace Copyhold
open Go Go.RowKit Go.ChangeShapes Go.WideShapes Go.ChangeAt Go.Deep
structure Opn {α : Type} (P : Program) (W : World) (t : TypeId) (en : α → List AV) (ok : α → Prop) : Prop where
  run : ∀ (H : Type) (enc : TypeId × Value → H) (fuel : Nat) (cs : List Value) (x : DataW H × List MemPlace),
    DataW.trod enc P W 0 (fun _ => true) true fuel t cs = some x → (∀ p ∈ x.2, p.block < W.heap.size) → (∀ n ∈ DataW.weights P t x.1, n ≤ 140737488351232) →
    ∃ a, CellsR (· < W.heap.size) W (en a) cs ∧ (∀ u ∈ cs, u.oneCell' = true) ∧ ok a
section
variable {P : Program} {W : World} {t : TypeId}
theorem Opn.map {α β : Type} {en : α → List AV} {ok : α → Prop} {en' : β → List AV} {ok' : β → Prop} (h : Opn P W t en ok) (f : α → β) (he : ∀ a, en' (f a) = en a) (ho : ∀ a, ok a → ok' (f a)) : Opn P W t en' ok' := Opn.mk fun H enc fuel cs x h1 h2 h3 => by
  obtain ⟨a, g1, g2, g3⟩ := h.run H enc fuel cs x h1 h2 h3
  exact ⟨f a, by rw [he]; exact g1, g2, ho a g3⟩
theorem cells_one {D : Nat → Prop} {w : World} {a : AV} {v : Value} (h : Ra D w a v) : CellsR D w [a] [v] := ⟨rfl, fun j x u hx hu => by
  match j, hx, hu with
  | 0, hx, hu => simp at hx hu; subst hx hu; exact h
  | j + 1, hx, _ => simp at hx⟩
theorem wf_u64 {z : Int} (w : (Lit.int .u64 z).wf = true) : 0 ≤ z ∧ z ≤ 18446744073709551615 := by
  simpa [Lit.wf, IntKind.min, IntKind.max, IntKind.signed, IntKind.bits] using w
theorem opn_u64 (hu : P.underlying t = some (.int .u64)) : Opn P W t (fun n : Int => [.val (.int .u64 n)]) (fun n => 0 ≤ n ∧ n ≤ 18446744073709551615) := Opn.mk fun H enc fuel cs x h1 h2 h3 => by
  obtain ⟨n, rfl, rfl, hw⟩ := DataW.trod_int hu h1
  exact ⟨n, cells_one (.val _), fun u hu => by obtain rfl := List.mem_singleton.1 hu; rfl, wf_u64 hw⟩
theorem opn_string (hu : P.underlying t = some .string) : Opn P W t (fun n : List UInt8 => [aS n]) (fun n => n.length ≤ 140737488351232) := Opn.mk fun H enc fuel cs x h1 h2 h3 => by
  obtain ⟨s, rfl, rfl, _⟩ := DataW.trod_string hu h1
  exact ⟨s.data.toList, cells_one (.val _), fun u hu => by obtain rfl := List.mem_singleton.1 hu; rfl, h3 _ (by simp [DataW.weights])⟩
structure OpnFs {γ : Type} (P : Program) (W : World) (N : Nat) (fs : List Field) (off : Nat) (en : γ → List AV) (ok : γ → Prop) : Prop where
  run : ∀ (H : Type) (enc : TypeId × Value → H) (m : Nat) (cs : List Value) (xs : List (DataW H × List MemPlace)), cs.length = N → xs.length = fs.length →
    (∀ (i : Nat) (f : Field), fs[i]? = some f → DataW.trod enc P W 0 (fun _ => true) true m f.type ((cs.drop f.offset).take (P.cellsOf f.type)) = xs[i]?) →
    (∀ x ∈ xs, ∀ p ∈ x.2, p.block < W.heap.size) → (∀ n ∈ DataW.weightsEach P (fs.map (·.type)) (xs.map (·.1)), n ≤ 140737488351232) →
    ∃ g, CellsR (· < W.heap.size) W (en g) (cs.drop off) ∧ (∀ u ∈ cs.drop off, u.oneCell' = true) ∧ ok g
theorem opnF_nil (N : Nat) : OpnFs P W N [] N (fun _ : Unit => []) (fun _ => True) := OpnFs.mk fun H enc m cs xs h1 h2 h3 h4 h5 => by
  have : cs.drop N = [] := List.drop_eq_nil_of_le (by omega)
  rw [this]
  exact ⟨(), ⟨rfl, fun j a u ha => by simp at ha⟩, fun u hu => by simp at hu, trivial⟩
theorem cells_append {D : Nat → Prop} {w : World} {xs ys : List AV} {cs ds : List Value} (h : CellsR D w xs cs) (k : CellsR D w ys ds) : CellsR D w (xs ++ ys) (cs ++ ds) := by
  refine ⟨by simp [h.1, k.1], fun j a u ha hu => ?_⟩
  by_cases hj : j < xs.length
  · rw [List.getElem?_append_left hj] at ha
    rw [List.getElem?_append_left (by rw [h.1]; exact hj)] at hu
    exact h.2 j a u ha hu
  · rw [List.getElem?_append_right (by omega)] at ha
    rw [List.getElem?_append_right (by rw [h.1]; omega), h.1] at hu
    exact k.2 _ a u ha hu
theorem opnF_cons {α γ : Type} {N off k : Nat} {f : Field} {fs : List Field} {en : α → List AV} {ok : α → Prop} {en2 : γ → List AV} {ok2 : γ → Prop} (h : Opn P W f.type en ok) (ho : f.offset = off) (hk : P.cellsOf f.type = k)
    (hr : OpnFs P W N fs (off + k) en2 ok2) : OpnFs P W N (f :: fs) off (fun g : α × γ => en g.1 ++ en2 g.2) (fun g => ok g.1 ∧ ok2 g.2) := OpnFs.mk fun H enc m cs xs h1 h2 h3 h4 h5 => by
  obtain ⟨x0, xr, rfl⟩ : ∃ a r, xs = a :: r := by
    cases xs with
    | nil => simp at h2
    | cons a r => exact ⟨a, r, rfl⟩
  have g0 := h3 0 f rfl
  rw [ho, hk] at g0
  simp only [List.map_cons, DataW.weightsEach] at h5
  obtain ⟨a, ha, ha2, ha3⟩ := h.run H enc m _ x0 (by simpa using g0) (h4 x0 (by simp)) (fun n hn => h5 n (by simp [hn]))
  obtain ⟨g, hg, hg2, hg3⟩ := hr.run H enc m cs xr h1 (by simpa using h2) (fun i f' hf => by have := h3 (i + 1) f' (by simpa using hf); simpa using this) (fun x hx => h4 x (by simp [hx])) (fun n hn => h5 n (by simp [hn]))
  have e : cs.drop off = (cs.drop off).take k ++ cs.drop (off + k) := by
    rw [← List.drop_drop, List.take_append_drop]
  refine ⟨(a, g), ?_, ?_, ha3, hg3⟩
  · rw [e]; exact cells_append ha hg
  · intro u hu
    rw [e] at hu
    rcases List.mem_append.1 hu with h | h
    · exact ha2 u h
    · exact hg2 u h
theorem opn_struct {γ : Type} {N : Nat} {fs : Array Field} {en : γ → List AV} {ok : γ → Prop} (hu : P.underlying t = some (.struct fs)) (hc : P.cellsOf t = N) (h : OpnFs P W N fs.toList 0 en ok) : Opn P W t en ok := Opn.mk fun H enc fuel cs x h1 h2 h3 => by
  obtain ⟨xs, m, _, rfl, hl, hlen, hfl⟩ := DataW.trod_struct hu h1
  obtain ⟨g, g1, g2, g3⟩ := h.run H enc m cs xs (by rw [hl, hc]) (by simpa using hlen) (fun i f hf => hfl i f (by simpa using hf)) (fun x hx p hp => h2 p (by simp only [List.mem_flatMap]; exact ⟨x, hx, hp⟩))
    (fun n hn => h3 n (by simp only [DataW.weights, hu]; exact hn))
  exact ⟨g, by simpa using g1, by simpa using g2, g3⟩
theorem arg_struct {α : Type} {en : α → List AV} {ok : α → Prop} {fs : Array Field} {H : Type} {enc : TypeId × Value → H} {base : Nat} {v : Value} {d : DataW H} {p : List MemPlace} (h : Opn P W t en ok) (hu : P.underlying t = some (.struct fs)) (hv : Value.okWide P W .any base t v)
    (ht : ∃ fuel, DataW.trod enc P W 0 (fun _ => true) true fuel t v.cells.toList = some (d, p)) (hlt : ∀ x ∈ p, x.block < W.heap.size) (hw : ∀ n ∈ DataW.weights P t d, n ≤ 140737488351232) : ∃ a, Ra (· < W.heap.size) W (.agg (en a)) v ∧ ok a := by
  obtain ⟨cs, rfl, _⟩ := okWide_struct hu hv
  obtain ⟨fuel, ht⟩ := ht
  obtain ⟨a, g1, g2, g3⟩ := h.run H enc fuel _ _ ht hlt hw
  refine ⟨a, .agg _ _ (by have := g1.1; simp [Value.cells] at this; omega) (fun j u hj => g2 u (by have := Array.mem_of_getElem? hj; simpa [Value.cells] using this)) (fun j x u hx hj => g1.2 j x u hx (by simpa [Value.cells] using hj)), g3⟩
def RaL (D : Nat → Prop) (w : World) : List AV → List Value → Prop
  | [], [] => True
  | x :: xs, v :: vs => Ra D w x v ∧ RaL D w xs vs
  | _, _ => False
theorem raAllL {D : Nat → Prop} {w : World} : ∀ (xs : List AV) (vs : List Value), RaL D w xs vs → RaAll D w xs vs.toArray
  | [], [], _ => ⟨rfl, fun j a u ha => by simp at ha⟩
  | x :: xs, v :: vs, h => by
    have ih := raAllL xs vs h.2
    refine ⟨by have := ih.1; simp at this ⊢; exact this, fun j a u ha hu => ?_⟩
    cases j with
    | zero => simp at ha hu; subst ha hu; exact h.1
    | succ j => exact ih.2 j a u (by simpa using ha) (by simpa using hu)
  | [], _ :: _, h => h.elim
  | _ :: _, [], h => h.elim
theorem law_callsV {f : FuncId} {args : List AV} {vs : Array Value} {w : World} (h : FSpec P f args (aB true)) (hv : RaAll (· < w.heap.size) w args vs) :
    Calls P f vs w (fun e w' => e = .returned (.bool true) ∧ Below w.heap.size w w') := by
  refine (h _ w vs (fun _ h => h) hv).mono ?_
  rintro e w' ⟨v, D', rfl, hb, _, _, hr⟩
  cases hr
  exact ⟨rfl, hb⟩
end
end Copyhold

set_option linter.unusedVariables false
set_option linter.unusedSimpArgs false
namespace Go.Proofs.YtlcepboedifniaaDoor
open Go Go.RowKit Copyhold
theorem opv_rcs (W : World) : Opn Tryd.prog W 51 rcsA OkRcs :=
  (opn_struct (N := 4) Tryd.underlying51 (by kernel_rfl) (opnF_cons (k := 1) (opn_u64 Tryd.underlying28) rfl (by kernel_rfl) (opnF_cons (k := 1) (opn_u64 Tryd.underlying28) rfl (by kernel_rfl) (opnF_cons (k := 1) (opn_string Tryd.underlying9) rfl (by kernel_rfl) (opnF_cons (k := 1) (opn_string Tryd.underlying9) rfl (by kernel_rfl) (opnF_nil 4)))))).map (fun g => ⟨g.1, g.2.1, g.2.2.1, g.2.2.2.1⟩) (fun _ => rfl) (fun a h => ⟨h.1, h.2.1, h.2.2.1, h.2.2.2.1⟩)
end Go.Proofs.YtlcepboedifniaaDoor
