/- copyholdref01.Strings, copyholdref05.Scan, redo.Right, copyholdref04.Flush, Crash. What comes in, by its type: an abstract value that describes it. Over any program. No conditions beyond each law's own. Disks, rings, logs among a law's arguments. -/
import Derived.Test.YtlcepboedifniaaGreatDoorMrgP
import Derived.Test.YtlcepboedifniaaGreatDoorMrgG
set_option linter.unusedVariables false
set_option linter.unusedSimpArgs false
namespace Go.Proofs.YtlcepboedifniaaGreatDoor
open Go Go.RowKit Copyhold Copyhold.Disk
set_option maxRecDepth 100000 in
set_option maxHeartbeats 4000000 in
theorem rstrs_spec (a b : List Txt) (h1 : a.length ≤ 1000000) (h2 : b.length ≤ 1000000) : FSpec Tryz.prog 11 [.sl 1 false (a.map txA), .sl 1 false (b.map txA)] (aB (dP (a = b))) := by
  exact spec_vd Tryz.func11 (let R : AV := aB (dP (a = b));
 .r 1 <| .r 2 <| .lm 7 a txA <| .r 2 <| .lm 9 b txA <| .r 1 <| .bn 10 (a.length : Int) (b.length : Int) (fun p1 => .r 1 <| .f (aB (dP (a = b))) [] (aB false) (by exact sF (fun h => by have := congrArg List.length h; omega)))
 <| fun p1 => .r 1 <| let L1 : Lp (Nat) := ⟨fun a1 => ⟨[(0, .sl 1 false (a.map txA)), (1, .sl 1 false (b.map txA)), (5, aI (a1 : Int))], []⟩, fun a1 => a.length - a1, fun a1 => a1 ≤ a.length ∧ a.take a1 = b.take a1⟩
 .lp L1 0 ⟨Nat.zero_le _, rfl⟩ [(5, aI 0)] [] ⟨Sub.refl _, Sub.refl _, sO, trivial⟩ trivial fun a1 ha1 =>
 (fun (k : Nat) (hH1 : k ≤ a.length ∧ a.take k = b.take k) => .r 3 <| .lm 13 a txA <| .r 1 <| .bd 14 ((k : Int) < (a.length : Int)) (fun p2 => .ord [0, 1, 2, 3, 4, 5, 6, 7, 8] <| .r 2 <| .idxM a txA k (m := (k : Int)) rfl (by omega) fun x1 hx1 =>
 .r 3 <| .idxM b txA k (m := (k : Int)) rfl (by omega) fun x2 hx2 =>
 .r 2 <| .nbe 25 x1 x2 (fun p3 => .r 1 <| .f R [] (aB false) (by
    refine sF (fun h => ?_)
    rw [h, hx2] at hx1
    obtain rfl := Option.some.inj hx1
    simp_all [dP_true, dP_false]))
 <| fun p3 => .run 3 [rng .i64 ((k : Int) + 1)] ⟨rng64 (by omega) (by omega), trivial⟩ <|
 .bk L1 k (k + 1) ⟨by omega, by rw [take_step hx1, take_step hx2, hH1.2]; first | (congr 2; done) | (congr 2; exact (by simp_all))⟩ (show a.length - (k + 1) < a.length - k from (by omega)) [(5, aI ((k : Int) + 1))] [] ⟨Sub.refl _, Sub.refl _, sO, trivial⟩ trivial)
 <| fun p2 => .r 1 <| .f R [] (aB true) (by
    refine sT ?_
    have h := hH1.2
    rw [take_all (by omega), take_all (by omega)] at h
    exact h)) a1 ha1)
set_option maxRecDepth 100000 in
set_option maxHeartbeats 4000000 in
theorem rscan_spec (d : Dsk) (r : Rng) (hrd : Copyhold.Disk.Right d) (hw : d.w.length ≤ 8796093022208) (hk : d.kept.length ≤ 40) (okr : OkR r) (a n : Int) (ha : I64 a) (hn : U64 n) : FSpec Tryz.prog 10 [.agg [.sl 1 false (d.kept.map txA), .sl 2 false (d.w.map putA), aB d.off], .agg [aI r.from_, aI r.many], aI a, .val (.int .u64 n)] (.tup [.agg (lgA (scanD d r a n).1), .sl 1 false ((scanD d r a n).2.1.map txA), aI (scanD d r a n).2.2]) := by
  exact spec_vd Tryz.func10 (
 .new fun b1 => .new fun b2 => .new fun b3 => .r 2 <| .u 2 [b1] <|
 .br 15 (d.off) (fun q1 => have p1 := booT q1; .u 4 [b3] <|
 .f (.tup [.agg (lgA (scanD d r a n).1), .sl 1 false ((scanD d r a n).2.1.map txA), aI (scanD d r a n).2.2]) [b3] (.tup [.agg [aI 0, aI 0, .val (.int .u64 0), aI 0], aN, aI 19]) (by
    rw [show scanD d r a n = _ from if_pos q1]
    exact Sub.tups ⟨Sub.refl _, Sub.nil _ _, Sub.refl _, trivial⟩))
 <| fun q1 => have p1 := booF q1; .u 2 [b1, b2] <|
 .call (may_spec d r okr (by omega)) <|
 .r 1 <| .r 3 <| .br 22 (!(dP (ringP d.kept.length r))) (fun q2 => have q2 := notT q2; have p2 := booF q2; .r 9 <| .u 4 [b3] <|
 .f (.tup [.agg (lgA (scanD d r a n).1), .sl 1 false ((scanD d r a n).2.1.map txA), aI (scanD d r a n).2.2]) [b3] (.tup [.agg [aI 0, aI 0, .val (.int .u64 0), aI 0], aN, aI 1]) (by
    rw [show scanD d r a n = _ from (if_neg (by rw [q1]; decide)).trans (if_neg (fun h => dP_false.1 q2 h.1))]
    exact Sub.tups ⟨Sub.refl _, Sub.nil _ _, Sub.refl _, trivial⟩))
 <| fun q2 => have q2 := notF q2; have p2 := booT q2; .r 4 <| .bd 26 (a < 0) (fun p3 => .r 5 <| .u 4 [b3] <|
 .f (.tup [.agg (lgA (scanD d r a n).1), .sl 1 false ((scanD d r a n).2.1.map txA), aI (scanD d r a n).2.2]) [b3] (.tup [.agg [aI 0, aI 0, .val (.int .u64 0), aI 0], aN, aI 1]) (by
    rw [show scanD d r a n = _ from (if_neg (by rw [q1]; decide)).trans (if_neg (fun h => by have h2 : 0 ≤ a ∧ a < r.many := h.2; omega))]
    exact Sub.tups ⟨Sub.refl _, Sub.nil _ _, Sub.refl _, trivial⟩))
 <| fun p3 => .u 5 [b2] <|
 .bd 31 (a ≥ r.many) (fun p4 => .u 4 [b3] <|
 .f (.tup [.agg (lgA (scanD d r a n).1), .sl 1 false ((scanD d r a n).2.1.map txA), aI (scanD d r a n).2.2]) [b3] (.tup [.agg [aI 0, aI 0, .val (.int .u64 0), aI 0], aN, aI 1]) (by
    rw [show scanD d r a n = _ from (if_neg (by rw [q1]; decide)).trans (if_neg (fun h => by have h2 : 0 ≤ a ∧ a < r.many := h.2; omega))]
    exact Sub.tups ⟨Sub.refl _, Sub.nil _ _, Sub.refl _, trivial⟩))
 <| fun p4 => .u 6 [b1, b2, b2] <|
 .call (rfound_spec d r a n r.many hrd (by omega) hk okr (dP_true.1 q2) ⟨by omega, by omega⟩ hn okr.m) <|
 .r 5 <| .r 5 <| .lm 47 (toldW d r (lg0 r a n) r.many) txA <| .u 5 [b3] <|
 .f (.tup [.agg (lgA (scanD d r a n).1), .sl 1 false ((scanD d r a n).2.1.map txA), aI (scanD d r a n).2.2]) [b3] (.tup [.agg [aI a, aI (sumN (toldW d r (lg0 r a n) r.many) : Int), .val (.int .u64 n), aI ((toldW d r (lg0 r a n) r.many).length : Int)], .sl 1 false ((toldW d r (lg0 r a n) r.many).map txA), aI 0]) (by
    rw [show scanD d r a n = _ from (if_neg (by rw [q1]; decide)).trans (if_pos ⟨dP_true.1 q2, ⟨by omega, by omega⟩⟩)]
    exact Sub.tups ⟨Sub.refl _, Sub.refl _, Sub.refl _, trivial⟩))
theorem rd_good {d : Dsk} {r : Rng} {l : Lg} (hr : Copyhold.Disk.Right d) (hn : U64 l.first) (h : rrT d r l) : d.off = false ∧ goodW d r l ∧ 0 ≤ l.many := ⟨h.1, (rr_ok hr hn h).good, h.2.2.2.1⟩
theorem rd_eq {d : Dsk} {r : Rng} {l : Lg} (hr : Copyhold.Disk.Right d) (hk : d.kept.length ≤ 200) (hn : U64 l.first) (ho : d.off = false) (hg : goodW d r l) : lgW l (toldW d r l l.many) = l ↔ rrT d r l := by
  have hb := goodW_bd hg
  constructor
  · intro h
    have hu : ((sumN (toldW d r l l.many) : Nat) : Int) = l.used := congrArg Lg.used h
    have hm : (((toldW d r l l.many).length : Nat) : Int) = l.many := congrArg Lg.many h
    have e : toldW d r l l.many = (recsG (segN d r l.at_ l.used.toNat) l.first).take l.many.toNat := by rw [toldW_good hg, segI_segN hr hg]
    refine ok_rr hr hk (ts := toldW d r l l.many) ⟨ho, hg.1, hg.2.1, hu.symm, by omega, hm.symm, ?_, hn⟩
    have hc := recs_cut (g := segN d r l.at_ l.used.toNat) hn l.many.toNat
    rw [← e] at hc
    rw [hc, show sumN (toldW d r l l.many) = l.used.toNat from by omega, List.take_of_length_le (Nat.le_of_eq (segN_len hr hg.1 _ _))]
  · intro h
    have hlo := rr_ok hr hn h
    generalize toldW d r (lg0 r l.at_ l.first) l.many = ts at hlo
    have hu := hlo.used
    have hm := hlo.many
    rw [hlo.told hr hk, List.take_of_length_le (by omega)]
    unfold lgW
    rw [← hu, ← hm]
theorem lg_eqb (a b : Lg) : (a.at_ == b.at_ && (a.used == b.used && (a.first == b.first && (a.many == b.many && true)))) = true ↔ a = b := by
  obtain ⟨a1, a2, a3, a4⟩ := a
  obtain ⟨b1, b2, b3, b4⟩ := b
  simp
set_option maxRecDepth 100000 in
set_option maxHeartbeats 4000000 in
theorem right5_spec (d : Dsk) (r : Rng) (l : Lg) (okd : OkDk d) (hrd : Copyhold.Disk.Right d) (hk : d.kept.length ≤ 200) (okr : OkR r) (okl : OkL l) : FSpec Tryz.prog 16 [.agg [.sl 1 false (d.kept.map txA), .sl 2 false (d.w.map putA), aB d.off], .agg [aI r.from_, aI r.many], .agg [aI l.at_, aI l.used, .val (.int .u64 l.first), aI l.many]] (aB (dP (rrT d r l))) := by
  exact spec_vd Tryz.func16 (let R : AV := aB (dP (rrT d r l));
 .new fun b1 => .new fun b2 => .new fun b3 => .r 1 <| .u 3 [b1] <|
 .br 11 (d.off) (fun q1 => have p1 := booT q1; .r 12 <| .r 1 <| .f (aB (dP (rrT d r l))) [] (aB false) (by exact sF (fun h => by have := h.1; rw [q1] at this; cases this)))
 <| fun q1 => have p1 := booF q1; .u 2 [b1, b2] <|
 .call (ringed_spec d r okr (by omega)) <|
 .r 3 <| .br 17 (!(dP (ringP d.kept.length r))) (fun q2 => have q2 := notT q2; have p2 := booF q2; .r 6 <| .r 1 <| .f R [] (aB false) (by exact sF (fun h => dP_false.1 q2 h.2.1)))
 <| fun q2 => have q2 := notF q2; have p2 := booT q2; .u 3 [b2, b3] <|
 .call (placed_spec r l.at_) <|
 .r 2 <| .br 23 (!(dP (placeP r l.at_))) (fun q3 => have q3 := notT q3; have p3 := booF q3; .r 1 <| .f R [] (aB false) (by exact sF (fun h => dP_false.1 q3 h.2.2.1)))
 <| fun q3 => have q3 := notF q3; have p3 := booT q3; .u 4 [b3] <|
 .bd 27 (l.used < 0) (fun p4 => .r 11 <| .r 1 <| .f (aB (dP (rrT d r l))) [] (aB false) (by exact sF (fun h => by have h1 := rd_good hrd okl.f h; have h2 := goodW_bd h1.2.1; have h3 := h1.2.2; omega)))
 <| fun p4 => .u 7 [b3, b2] <|
 .bd 34 (l.used > r.many) (fun p5 => .r 4 <| .r 1 <| .f (aB (dP (rrT d r l))) [] (aB false) (by exact sF (fun h => by have h1 := rd_good hrd okl.f h; have h2 := goodW_bd h1.2.1; have h3 := h1.2.2; omega)))
 <| fun p5 => .u 4 [b3] <|
 .bd 38 (l.many < 0) (fun p6 => .r 1 <| .f (aB (dP (rrT d r l))) [] (aB false) (by exact sF (fun h => by have h1 := rd_good hrd okl.f h; have h2 := goodW_bd h1.2.1; have h3 := h1.2.2; omega)))
 <| fun p6 => .u 5 [b1, b2, b3, b3] <|
 .call (found_spec d r l okd hrd hk okr okl l.many okl.m) <|
 .r 3 <| .new fun b4 => .u 2 [b4] <|
 .u 2 [b4, b3] <|
 .eqS <| .r 1 <| .f R [] (aB ((((lgW l (toldW d r l l.many)).at_) == l.at_) && ((((lgW l (toldW d r l l.many)).used) == l.used) && ((((lgW l (toldW d r l l.many)).first) == l.first) && ((((lgW l (toldW d r l l.many)).many) == l.many) && (true)))))) (by exact sE ((lg_eqb (lgW l (toldW d r l l.many)) l).trans (rd_eq hrd hk okl.f q1 ⟨dP_true.1 q2, dP_true.1 q3, by omega, by omega⟩))))
end Go.Proofs.YtlcepboedifniaaGreatDoor

set_option linter.unusedVariables false
set_option linter.unusedSimpArgs false
namespace Copyhold
open Go Go.RowKit Go.ChangeShapes Go.WideShapes Go.ChangeAt Go.Deep
structure Opn {α : Type} (P : Program) (W : World) (t : TypeId) (en : α → List AV) (ok : α → Prop) : Prop where
  run : ∀ (H : Type) (enc : TypeId × Value → H) (fuel : Nat) (cs : List Value) (x : DataW H × List MemPlace),
    DataW.trod enc P W 0 (fun _ => true) true fuel t cs = some x → (∀ p ∈ x.2, p.block < W.heap.size) → (∀ n ∈ DataW.weights P t x.1, n ≤ 140737488351232) →
    ∃ a, CellsR (· < W.heap.size) W (en a) cs ∧ (∀ u ∈ cs, u.oneCell' = true) ∧ ok a
section
variable {P : Program} {W : World} {t : TypeId}
theorem Opn.map {α β : Type} {en : α → List AV} {ok : α → Prop} {en' : β → List AV} {ok' : β → Prop} (h : Opn P W t en ok) (f : α → β) (he : ∀ a, en' (f a) = en a) (ho : ∀ a, ok a → ok' (f a)) : Opn P W t en' ok' := Opn.mk fun H enc fuel cs x h1 h2 h3 => by
  obtain ⟨a, g1, g2, g3⟩ := h.run H enc fuel cs x h1 h2 h3
  exact ⟨f a, by rw [he]; exact g1, g2, ho a g3⟩
theorem cells_one {D : Nat → Prop} {w : World} {a : AV} {v : Value} (h : Ra D w a v) : CellsR D w [a] [v] := ⟨rfl, fun j x u hx hu => by
  match j, hx, hu with
  | 0, hx, hu => simp at hx hu; subst hx hu; exact h
  | j + 1, hx, _ => simp at hx⟩
theorem wf_i64 {z : Int} (w : (Lit.int .i64 z).wf = true) : -9223372036854775808 ≤ z ∧ z ≤ 9223372036854775807 := by
  simpa [Lit.wf, IntKind.min, IntKind.max, IntKind.signed, IntKind.bits] using w
theorem wf_u64 {z : Int} (w : (Lit.int .u64 z).wf = true) : 0 ≤ z ∧ z ≤ 18446744073709551615 := by
  simpa [Lit.wf, IntKind.min, IntKind.max, IntKind.signed, IntKind.bits] using w
theorem opn_int (hu : P.underlying t = some (.int .i64)) : Opn P W t (fun n : Int => [aI n]) (fun n => -9223372036854775808 ≤ n ∧ n ≤ 9223372036854775807) := Opn.mk fun H enc fuel cs x h1 h2 h3 => by
  obtain ⟨n, rfl, rfl, hw⟩ := DataW.trod_int hu h1
  exact ⟨n, cells_one (.val _), fun u hu => by obtain rfl := List.mem_singleton.1 hu; rfl, wf_i64 hw⟩
theorem opn_u64 (hu : P.underlying t = some (.int .u64)) : Opn P W t (fun n : Int => [.val (.int .u64 n)]) (fun n => 0 ≤ n ∧ n ≤ 18446744073709551615) := Opn.mk fun H enc fuel cs x h1 h2 h3 => by
  obtain ⟨n, rfl, rfl, hw⟩ := DataW.trod_int hu h1
  exact ⟨n, cells_one (.val _), fun u hu => by obtain rfl := List.mem_singleton.1 hu; rfl, wf_u64 hw⟩
theorem opn_bool (hu : P.underlying t = some .bool) : Opn P W t (fun n : Bool => [aB n]) (fun _ => True) := Opn.mk fun H enc fuel cs x h1 h2 h3 => by
  obtain ⟨n, rfl, rfl⟩ := DataW.trod_bool hu h1
  exact ⟨n, cells_one (.val _), fun u hu => by obtain rfl := List.mem_singleton.1 hu; rfl, trivial⟩
theorem opn_string (hu : P.underlying t = some .string) : Opn P W t (fun n : List UInt8 => [aS n]) (fun n => n.length ≤ 140737488351232) := Opn.mk fun H enc fuel cs x h1 h2 h3 => by
  obtain ⟨s, rfl, rfl, _⟩ := DataW.trod_string hu h1
  exact ⟨s.data.toList, cells_one (.val _), fun u hu => by obtain rfl := List.mem_singleton.1 hu; rfl, h3 _ (by simp [DataW.weights])⟩
theorem opn_slice {α : Type} {en : α → List AV} {ok : α → Prop} {e : TypeId} {k : Nat} (h : Opn P W e en ok) (a0 : α) (hu : P.underlying t = some (.slice e)) (hc : P.cellsOf e = k) (hk : 0 < k) (hb : 16 ≤ P.bytesOf e) :
    Opn P W t (fun l : List α => [.sl k false (l.map en)]) (fun l => l.length ≤ 8796093022207 ∧ ∀ a ∈ l, ok a) := Opn.mk fun H enc fuel cs x h1 h2 h3 => by
  obtain ⟨v, rs, rfl, hr, hd⟩ := open_slice_of (k := k) (R := fun a cs => CellsR (· < W.heap.size) W (en a) cs ∧ (∀ u ∈ cs, u.oneCell' = true) ∧ ok a) hu hc hk a0 (fun n cs' y hy hl hcl hww => h.run H enc n cs' y hy hl hww) h1 h2 h3
  have hsz := rows_sized hu hd h3
  have := Nat.le_trans (Nat.mul_le_mul_left rs.length hb) hsz
  have hra : Ra (· < W.heap.size) W (.sl k false (rs.map en)) v := ra_of_slOf hr (· < W.heap.size) (fun _ h => h) (fun a _ cs _ hR => ⟨hR.2.1, hR.1⟩)
  obtain ⟨A, c, rfl⟩ := hr.shape
  refine ⟨rs, cells_one hra, fun u hu => by obtain rfl := List.mem_singleton.1 hu; rfl, by omega, fun a ha => ?_⟩
  obtain ⟨css, g1, g2, g3⟩ := hr
  obtain ⟨i, hi, rfl⟩ := List.mem_iff_getElem.1 ha
  exact (g3 i _ _ (List.getElem?_eq_getElem (by omega)) (List.getElem?_eq_getElem hi)).2.2.2
theorem opn_sliceS {α : Type} {en : α → List AV} {ok : α → Prop} {e : TypeId} {k : Nat} (h : Opn P W e en ok) (a0 : α) (hu : P.underlying t = some (.slice e)) (hc : P.cellsOf e = k) (hk : 0 < k) (hb : 1 ≤ P.bytesOf e) :
    Opn P W t (fun l : List α => [.sl k false (l.map en)]) (fun l => l.length ≤ 140737488351232 ∧ ∀ a ∈ l, ok a) := Opn.mk fun H enc fuel cs x h1 h2 h3 => by
  obtain ⟨v, rs, rfl, hr, hd⟩ := open_slice_of (k := k) (R := fun a cs => CellsR (· < W.heap.size) W (en a) cs ∧ (∀ u ∈ cs, u.oneCell' = true) ∧ ok a) hu hc hk a0 (fun n cs' y hy hl hcl hww => h.run H enc n cs' y hy hl hww) h1 h2 h3
  have hsz := rows_sized hu hd h3
  have := Nat.le_trans (Nat.mul_le_mul_left rs.length hb) hsz
  have hra : Ra (· < W.heap.size) W (.sl k false (rs.map en)) v := ra_of_slOf hr (· < W.heap.size) (fun _ h => h) (fun a _ cs _ hR => ⟨hR.2.1, hR.1⟩)
  obtain ⟨A, c, rfl⟩ := hr.shape
  refine ⟨rs, cells_one hra, fun u hu => by obtain rfl := List.mem_singleton.1 hu; rfl, by omega, fun a ha => ?_⟩
  obtain ⟨css, g1, g2, g3⟩ := hr
  obtain ⟨i, hi, rfl⟩ := List.mem_iff_getElem.1 ha
  exact (g3 i _ _ (List.getElem?_eq_getElem (by omega)) (List.getElem?_eq_getElem hi)).2.2.2
structure OpnFs {γ : Type} (P : Program) (W : World) (N : Nat) (fs : List Field) (off : Nat) (en : γ → List AV) (ok : γ → Prop) : Prop where
  run : ∀ (H : Type) (enc : TypeId × Value → H) (m : Nat) (cs : List Value) (xs : List (DataW H × List MemPlace)), cs.length = N → xs.length = fs.length →
    (∀ (i : Nat) (f : Field), fs[i]? = some f → DataW.trod enc P W 0 (fun _ => true) true m f.type ((cs.drop f.offset).take (P.cellsOf f.type)) = xs[i]?) →
    (∀ x ∈ xs, ∀ p ∈ x.2, p.block < W.heap.size) → (∀ n ∈ DataW.weightsEach P (fs.map (·.type)) (xs.map (·.1)), n ≤ 140737488351232) →
    ∃ g, CellsR (· < W.heap.size) W (en g) (cs.drop off) ∧ (∀ u ∈ cs.drop off, u.oneCell' = true) ∧ ok g
theorem opnF_nil (N : Nat) : OpnFs P W N [] N (fun _ : Unit => []) (fun _ => True) := OpnFs.mk fun H enc m cs xs h1 h2 h3 h4 h5 => by
  have : cs.drop N = [] := List.drop_eq_nil_of_le (by omega)
  rw [this]
  exact ⟨(), ⟨rfl, fun j a u ha => by simp at ha⟩, fun u hu => by simp at hu, trivial⟩
theorem cells_append {D : Nat → Prop} {w : World} {xs ys : List AV} {cs ds : List Value} (h : CellsR D w xs cs) (k : CellsR D w ys ds) : CellsR D w (xs ++ ys) (cs ++ ds) := by
  refine ⟨by simp [h.1, k.1], fun j a u ha hu => ?_⟩
  by_cases hj : j < xs.length
  · rw [List.getElem?_append_left hj] at ha
    rw [List.getElem?_append_left (by rw [h.1]; exact hj)] at hu
    exact h.2 j a u ha hu
  · rw [List.getElem?_append_right (by omega)] at ha
    rw [List.getElem?_append_right (by rw [h.1]; omega), h.1] at hu
    exact k.2 _ a u ha hu
theorem opnF_cons {α γ : Type} {N off k : Nat} {f : Field} {fs : List Field} {en : α → List AV} {ok : α → Prop} {en2 : γ → List AV} {ok2 : γ → Prop} (h : Opn P W f.type en ok) (ho : f.offset = off) (hk : P.cellsOf f.type = k)
    (hr : OpnFs P W N fs (off + k) en2 ok2) : OpnFs P W N (f :: fs) off (fun g : α × γ => en g.1 ++ en2 g.2) (fun g => ok g.1 ∧ ok2 g.2) := OpnFs.mk fun H enc m cs xs h1 h2 h3 h4 h5 => by
  obtain ⟨x0, xr, rfl⟩ : ∃ a r, xs = a :: r := by
    cases xs with
    | nil => simp at h2
    | cons a r => exact ⟨a, r, rfl⟩
  have g0 := h3 0 f rfl
  rw [ho, hk] at g0
  simp only [List.map_cons, DataW.weightsEach] at h5
  obtain ⟨a, ha, ha2, ha3⟩ := h.run H enc m _ x0 (by simpa using g0) (h4 x0 (by simp)) (fun n hn => h5 n (by simp [hn]))
  obtain ⟨g, hg, hg2, hg3⟩ := hr.run H enc m cs xr h1 (by simpa using h2) (fun i f' hf => by have := h3 (i + 1) f' (by simpa using hf); simpa using this) (fun x hx => h4 x (by simp [hx])) (fun n hn => h5 n (by simp [hn]))
  have e : cs.drop off = (cs.drop off).take k ++ cs.drop (off + k) := by
    rw [← List.drop_drop, List.take_append_drop]
  refine ⟨(a, g), ?_, ?_, ha3, hg3⟩
  · rw [e]; exact cells_append ha hg
  · intro u hu
    rw [e] at hu
    rcases List.mem_append.1 hu with h | h
    · exact ha2 u h
    · exact hg2 u h
theorem opn_struct {γ : Type} {N : Nat} {fs : Array Field} {en : γ → List AV} {ok : γ → Prop} (hu : P.underlying t = some (.struct fs)) (hc : P.cellsOf t = N) (h : OpnFs P W N fs.toList 0 en ok) : Opn P W t en ok := Opn.mk fun H enc fuel cs x h1 h2 h3 => by
  obtain ⟨xs, m, _, rfl, hl, hlen, hfl⟩ := DataW.trod_struct hu h1
  obtain ⟨g, g1, g2, g3⟩ := h.run H enc m cs xs (by rw [hl, hc]) (by simpa using hlen) (fun i f hf => hfl i f (by simpa using hf)) (fun x hx p hp => h2 p (by simp only [List.mem_flatMap]; exact ⟨x, hx, hp⟩))
    (fun n hn => h3 n (by simp only [DataW.weights, hu]; exact hn))
  exact ⟨g, by simpa using g1, by simpa using g2, g3⟩
theorem arg_struct {α : Type} {en : α → List AV} {ok : α → Prop} {fs : Array Field} {H : Type} {enc : TypeId × Value → H} {base : Nat} {v : Value} {d : DataW H} {p : List MemPlace} (h : Opn P W t en ok) (hu : P.underlying t = some (.struct fs)) (hv : Value.okWide P W .any base t v)
    (ht : ∃ fuel, DataW.trod enc P W 0 (fun _ => true) true fuel t v.cells.toList = some (d, p)) (hlt : ∀ x ∈ p, x.block < W.heap.size) (hw : ∀ n ∈ DataW.weights P t d, n ≤ 140737488351232) : ∃ a, Ra (· < W.heap.size) W (.agg (en a)) v ∧ ok a := by
  obtain ⟨cs, rfl, _⟩ := okWide_struct hu hv
  obtain ⟨fuel, ht⟩ := ht
  obtain ⟨a, g1, g2, g3⟩ := h.run H enc fuel _ _ ht hlt hw
  refine ⟨a, .agg _ _ (by have := g1.1; simp [Value.cells] at this; omega) (fun j u hj => g2 u (by have := Array.mem_of_getElem? hj; simpa [Value.cells] using this)) (fun j x u hx hj => g1.2 j x u hx (by simpa [Value.cells] using hj)), g3⟩
def RaL (D : Nat → Prop) (w : World) : List AV → List Value → Prop
  | [], [] => True
  | x :: xs, v :: vs => Ra D w x v ∧ RaL D w xs vs
  | _, _ => False
theorem raAllL {D : Nat → Prop} {w : World} : ∀ (xs : List AV) (vs : List Value), RaL D w xs vs → RaAll D w xs vs.toArray
  | [], [], _ => ⟨rfl, fun j a u ha => by simp at ha⟩
  | x :: xs, v :: vs, h => by
    have ih := raAllL xs vs h.2
    refine ⟨by have := ih.1; simp at this ⊢; exact this, fun j a u ha hu => ?_⟩
    cases j with
    | zero => simp at ha hu; subst ha hu; exact h.1
    | succ j => exact ih.2 j a u (by simpa using ha) (by simpa using hu)
  | [], _ :: _, h => h.elim
  | _ :: _, [], h => h.elim
theorem law_callsV {f : FuncId} {args : List AV} {vs : Array Value} {w : World} (h : FSpec P f args (aB true)) (hv : RaAll (· < w.heap.size) w args vs) :
    Calls P f vs w (fun e w' => e = .returned (.bool true) ∧ Below w.heap.size w w') := by
  refine (h _ w vs (fun _ h => h) hv).mono ?_
  rintro e w' ⟨v, D', rfl, hb, _, _, hr⟩
  cases hr
  exact ⟨rfl, hb⟩
end
end Copyhold

set_option linter.unusedVariables false
set_option linter.unusedSimpArgs false
namespace Go.Proofs.YtlcepboedifniaaGreatDoor
open Go Go.RowKit Copyhold Copyhold.Disk
def OkPt (_ : Int × Txt) : Prop := True
structure OkD0 (d : Dsk) : Prop where
  kept : d.kept.length ≤ 8796093022207
  w : d.w.length ≤ 8796093022207
theorem opv_txts5 (W : World) : Opn Tryz.prog W 22 (fun l : List (Txt) => [.sl 1 false (l.map txA)]) (fun l => l.length ≤ 8796093022207 ∧ ∀ a ∈ l, (fun t : Txt => t.length ≤ 140737488351232) a) := opn_slice (opn_string Tryz.underlying9) ([]) Tryz.underlying22 (by kernel_rfl) (by decide) (Nat.le_of_ble_eq_true (by kernel_rfl))
theorem opv_put (W : World) : Opn Tryz.prog W 78 putA OkPt :=
  (opn_struct (N := 2) Tryz.underlying78 (by kernel_rfl) (opnF_cons (k := 1) (opn_int Tryz.underlying3) rfl (by kernel_rfl) (opnF_cons (k := 1) (opn_string Tryz.underlying9) rfl (by kernel_rfl) (opnF_nil 2)))).map (fun g => (g.1, g.2.1)) (fun _ => rfl) (fun a h => trivial)
theorem opv_puts (W : World) : Opn Tryz.prog W 23 (fun l : List (Int × Txt) => [.sl 2 false (l.map putA)]) (fun l => l.length ≤ 8796093022207 ∧ ∀ a ∈ l, OkPt a) := opn_slice (opv_put W) ((0, [])) Tryz.underlying23 (by kernel_rfl) (by decide) (Nat.le_of_ble_eq_true (by kernel_rfl))
theorem opv_dsk (W : World) : Opn Tryz.prog W 25 dskA OkD0 :=
  (opn_struct (N := 3) Tryz.underlying25 (by kernel_rfl) (opnF_cons (k := 1) (opv_txts5 W) rfl (by kernel_rfl) (opnF_cons (k := 1) (opv_puts W) rfl (by kernel_rfl) (opnF_cons (k := 1) (opn_bool Tryz.underlying4) rfl (by kernel_rfl) (opnF_nil 3))))).map (fun g => ⟨g.1, g.2.1, g.2.2.1⟩) (fun _ => rfl) (fun a h => ⟨h.1.1, h.2.1.1⟩)
theorem opv_rng (W : World) : Opn Tryz.prog W 27 rngA OkR :=
  (opn_struct (N := 2) Tryz.underlying27 (by kernel_rfl) (opnF_cons (k := 1) (opn_int Tryz.underlying3) rfl (by kernel_rfl) (opnF_cons (k := 1) (opn_int Tryz.underlying3) rfl (by kernel_rfl) (opnF_nil 2)))).map (fun g => ⟨g.1, g.2.1⟩) (fun _ => rfl) (fun a h => ⟨h.1, h.2.1⟩)
theorem opv_lgg (W : World) : Opn Tryz.prog W 30 lgA OkL :=
  (opn_struct (N := 4) Tryz.underlying30 (by kernel_rfl) (opnF_cons (k := 1) (opn_int Tryz.underlying3) rfl (by kernel_rfl) (opnF_cons (k := 1) (opn_int Tryz.underlying3) rfl (by kernel_rfl) (opnF_cons (k := 1) (opn_u64 Tryz.underlying28) rfl (by kernel_rfl) (opnF_cons (k := 1) (opn_int Tryz.underlying3) rfl (by kernel_rfl) (opnF_nil 4)))))).map (fun g => ⟨g.1, g.2.1, g.2.2.1, g.2.2.2.1⟩) (fun _ => rfl) (fun a h => ⟨h.1, h.2.1, h.2.2.1, h.2.2.2.1⟩)
end Go.Proofs.YtlcepboedifniaaGreatDoor
