/- redo.found, Scan, Texts, Drop, Right. redo.cut, lay. redo.Scan, Texts, Drop. redo.Append. A row of bytes as a text; ref04.New; shown. The examples as facts; shown. -/
import Derived.Test.YtlcepboedifniaaDoorRdoWD5
import Derived.Test.YtlcepboedifniaaDoorMrgL
set_option linter.unusedVariables false
set_option linter.unusedSimpArgs false
namespace Go.Proofs.YtlcepboedifniaaDoor
open Go Go.RowKit Copyhold
set_option maxRecDepth 100000 in
set_option maxHeartbeats 4000000 in
theorem found_spec (d : Dsk) (r : Rng) (l : Lg) (okd : OkDk d) (hrd : Copyhold.Disk.Right d) (hk : d.kept.length ≤ 200) (okr : OkR r) (okl : OkL l) (mx : Int) (hmx : I64 mx) : FSpec Tryd.prog 23 [.agg [.sl 1 false (d.kept.map txA), .sl 2 false (d.w.map putA), aB d.off], .agg [aI r.from_, aI r.many], .agg [aI l.at_, aI l.used, .val (.int .u64 l.first), aI l.many], aI mx] (.tup [.agg (lgA (lgW l (toldW d r l mx))), .sl 1 false ((toldW d r l mx).map txA)]) := by
  exact spec_vd Tryd.func23 (let R : AV := .tup [.agg (lgA (lgW l (toldW d r l mx))), .sl 1 false ((toldW d r l mx).map txA)];
 .new fun b1 => .new fun b2 => .new fun b3 => .new fun b4 => .new fun b5 => .r 1 <| .new fun b6 => .u 5 [b3, b3] <|
 .new fun b7 => .u 1 [b7] <|
 .rowNilB 100 10 0 9 1 <| .lent 4 <| .u 4 [b1, b2, b3] <|
 .lop (lnR Tryd.prog [(11, .box b7 30 [aI l.at_, aI 0, .val (.int .u64 l.first), aI 0]), (7, .box b4 3 [aI mx]), (10, .box b6 22 [.rw 100 (.slice none 0 0) 0]), (100, .row (.slice none 0 0) 9 1 ([]))]) ((34, [.agg [.sl 1 false (d.kept.map txA), .sl 2 false (d.w.map putA), aB d.off], .agg [aI r.from_, aI r.many], .agg [aI l.at_, aI l.used, .val (.int .u64 l.first), aI l.many], .clo 35 [.ptr 11 b7 0, .ptr 7 b4 0, .ptr 10 b6 0]], some 21), [(11, .box b7 30 [aI l.at_, aI 0, .val (.int .u64 l.first), aI 0]), (7, .box b4 3 [aI mx]), (10, .box b6 22 [.rw 100 (.slice none 0 0) 0]), (100, .row (.slice none 0 0) 9 1 ([]))]) (fun (V1 : Value) σ => setBsL (σ.put (some 21) (.tup [])) [(11, .box b7 30 [aI ((lgW l (toldW d r l mx)).at_), aI ((lgW l (toldW d r l mx)).used), .val (.int .u64 ((lgW l (toldW d r l mx)).first)), aI ((lgW l (toldW d r l mx)).many)]), (7, .box b4 3 [aI mx]), (10, .box b6 22 [.rw 100 V1 ((toldW d r l mx).length)]), (100, .row V1 9 1 ((toldW d r l mx).map txA))]) (rule_lentN (args' := [.agg [.sl 1 false (d.kept.map txA), .sl 2 false (d.w.map putA), aB d.off], .agg [aI r.from_, aI r.many], .agg [aI l.at_, aI l.used, .val (.int .u64 l.first), aI l.many], .clo 35 [.ptr 11 b7 0, .ptr 7 b4 0, .ptr 10 b6 0]]) (ys' := fun V1 => [(11, .box b7 30 [aI ((lgW l (toldW d r l mx)).at_), aI ((lgW l (toldW d r l mx)).used), .val (.int .u64 ((lgW l (toldW d r l mx)).first)), aI ((lgW l (toldW d r l mx)).many)]), (7, .box b4 3 [aI mx]), (10, .box b6 22 [.rw 100 V1 ((toldW d r l mx).length)]), (100, .row V1 9 1 ((toldW d r l mx).map txA))]) ⟨Sub.refl _, Sub.refl _, Sub.refl _, Sub.refl _, trivial⟩ (walk_spec b7 b4 b6 (.slice none 0 0) d r l mx okd hrd hk okr okl hmx) (fun _ => rfl)) fun V1 =>
 let J1 : Jn (Unit) := ⟨fun j1 => ⟨[(8, .ptr 8 b5 0), (9, .rw 100 V1 ((toldW d r l mx).length))], [(8, .box b5 30 [aI ((lgW l (toldW d r l mx)).at_), aI ((lgW l (toldW d r l mx)).used), .val (.int .u64 ((lgW l (toldW d r l mx)).first)), aI ((lgW l (toldW d r l mx)).many)]), (100, .row V1 9 1 ((toldW d r l mx).map txA))]⟩, fun _ => True⟩
 .cut J1 (.pick [0] <| .u 1 [b7] <|
 .fork <| .alt (.u 1 [b6] <|
 .pick [2, 3] <| .u 2 [b5] <|
 .jo J1 () [] [] ⟨Sub.refl _, Sub.refl _, trivial⟩ bb2)
 <| .u 1 [b5] <|
 .pick [1, 3] <| .u 2 [b6] <|
 .jo J1 () [] [] ⟨Sub.refl _, Sub.refl _, trivial⟩ bb2)
 <| fun _ _ => .frz 100 [8, 9] [8] [V1 = V1, (toldW d r l mx).length = ((toldW d r l mx).map txA).length] ⟨rfl, (by first | rfl | (simp; done) | (simp; omega)), trivial⟩ <|
 .fi R [b5])
end Go.Proofs.YtlcepboedifniaaDoor

set_option linter.unusedVariables false
set_option linter.unusedSimpArgs false
namespace Go.Proofs.YtlcepboedifniaaDoor
open Go Go.RowKit Copyhold Copyhold.Disk
def cutN (s : Txt) : Nat := (s.length - 1) / 64
def cutK (s : Txt) (k : Nat) : List Txt := (List.range k).map fun j => (s.drop (64 * j)).take 64
def cutF (s : Txt) : List Txt := cutK s (cutN s) ++ [s.drop (64 * cutN s)]
theorem cutK_succ (s : Txt) (k : Nat) : cutK s (k + 1) = cutK s k ++ [(s.drop (64 * k)).take 64] := by simp [cutK, List.range_succ]
theorem cutK_len (s : Txt) (k : Nat) : (cutK s k).length = k := by simp [cutK]
theorem cutF_len (s : Txt) : (cutF s).length = cutN s + 1 := by simp [cutF, cutK_len]
theorem cutF_small (s : Txt) : ∀ x ∈ cutF s, x.length ≤ 64 := by
  intro x hx
  simp only [cutF, cutK, List.mem_append, List.mem_map, List.mem_singleton, List.mem_range] at hx
  rcases hx with ⟨j, hj, rfl⟩ | rfl
  · exact List.length_take_le _ _
  · rw [List.length_drop]
    unfold cutN
    omega
set_option maxRecDepth 100000 in
set_option maxHeartbeats 4000000 in
theorem cut_spec (s : Txt) (hs : s.length ≤ 1000000) : FSpec Tryd.prog 22 [aS s] (.sl 1 false ((cutF s).map txA)) := by
  exact spec_vd Tryd.func22 (
 .r 1 <| .r 1 <| .rowNil 3 3 9 1 <| let L1 : Lp (Nat × Value) := ⟨fun a1 => ⟨[(0, aS (s.drop (64 * a1.1))), (3, .rw 3 a1.2 ((cutK s a1.1).length))], [(3, .row a1.2 9 1 ((cutK s a1.1).map txA))]⟩, fun a1 => cutN s - a1.1, fun a1 => a1.1 ≤ cutN s⟩
 .lp L1 (0, .slice none 0 0) (show 0 ≤ cutN s from Nat.zero_le _) [(0, aS s), (3, .rw 3 (.slice none 0 0) 0)] [(3, .row (.slice none 0 0) 9 1 ([]))] ⟨Sub.refl _, Sub.of_eq (congrArg (AV.rw 3 (.slice none 0 0)) (by simp [cutK_len])), trivial⟩ ⟨⟨_, rfl, SubB.of_eq (by simp [cutK])⟩, trivial⟩ fun a1 ha1 =>
 (fun (k : Nat) (V : Value) (hH1 : k ≤ cutN s) => have hd := List.length_drop (i := 64 * k) (l := s); have hN : cutN s = (s.length - 1) / 64 := rfl; have hcl := cutK_len s k; .r 3 <| .bd 6 ((((s.drop (64 * k))).length : Int) > 64) (fun p1 => .r 2 <| .slcS (s.drop (64 * k)) none (some 64) 0 64 (.inl ⟨rfl, rfl⟩) (.inr rfl) (by first | omega | (simp; done) | (simp; omega)) (by first | omega | (simp; done) | (simp; omega)) <|
 .r 1 <| .app 16 V ((cutK s k).map txA) ([[aS (((s.drop (64 * k)).take 64).drop 0)]]) (by simp only [List.length_map, List.length_cons, List.length_nil, cutK_len, List.length_append]; omega) (by simp only [List.length_map, List.length_cons, List.length_nil, cutK_len, List.length_append]; omega) fun V1 =>
 .r 1 <| .r 1 <| .slcS (s.drop (64 * k)) (some 64) none 64 ((s.drop (64 * k)).length) (.inr rfl) (.inl ⟨rfl, rfl⟩) (by first | omega | (simp; done) | (simp; omega)) (by first | omega | (simp; done) | (simp; omega)) <|
 .r 1 <| .bk L1 (k, V) ((k + 1), V1) (show (k + 1) ≤ cutN s from (by show _ ≤ _; omega)) (show cutN s - (k + 1) < cutN s - k from (by omega)) [(0, aS (((s.drop (64 * k)).take ((s.drop (64 * k)).length)).drop 64)), (3, .rw 3 V1 (((cutK s k).map txA).length + ([[aS (((s.drop (64 * k)).take 64).drop 0)]] : List (List AV)).length))] [(3, .row V1 9 1 (((cutK s k).map txA) ++ ([[aS (((s.drop (64 * k)).take 64).drop 0)]])))] ⟨Sub.of_eq (congrArg aS (by show _ = List.drop (64 * (k + 1)) s; rw [List.take_length, List.drop_drop]; exact congrArg (fun m => List.drop m s) (by omega))), Sub.of_eq (congrArg (AV.rw 3 V1) (by simp [cutK_len])), trivial⟩ ⟨⟨_, rfl, SubB.of_eq (by rw [cutK_succ]; simp [txA])⟩, trivial⟩)
 <| fun p1 => .r 3 <| .app 16 V ((cutK s k).map txA) ([[aS (s.drop (64 * k))]]) (by simp only [List.length_map, List.length_cons, List.length_nil, cutK_len, List.length_append]; omega) (by simp only [List.length_map, List.length_cons, List.length_nil, cutK_len, List.length_append]; omega) fun V2 =>
 .r 1 <| .frz 3 [2] [] [V2 = V2, ((cutK s k).map txA).length + ([[aS (s.drop (64 * k))]] : List (List AV)).length = (((cutK s k).map txA) ++ ([[aS (s.drop (64 * k))]])).length] ⟨rfl, (by first | rfl | (simp; done) | (simp; omega)), trivial⟩ <|
 .f (.sl 1 false ((cutF s).map txA)) [] (.sl 1 false (((cutK s k).map txA) ++ ([[aS (s.drop (64 * k))]]))) (by
    have hkN : cutN s = k := by omega
    subst hkN
    first | exact Sub.of_eq (by simp [cutF, txA]) | exact (Sub.of_eq (by simp [cutF, txA])).trans (Sub.loose _ _ _))) a1.1 a1.2 ha1)
def layK (d : Dsk) (r : Rng) (a : Int) (ps : List Txt) : Nat → Dsk
  | 0 => d
  | k + 1 => dputW (layK d r a ps k) (r.from_ + roundF r (a + (k : Int))) (ps.getD k [])
theorem layK_facts (d : Dsk) (r : Rng) (a : Int) (ps : List Txt) (ho : d.off = false) : ∀ k, (layK d r a ps k).kept = d.kept ∧ (layK d r a ps k).w.length = d.w.length + k ∧ (layK d r a ps k).off = false
  | 0 => ⟨rfl, rfl, ho⟩
  | k + 1 => by
    have ih := layK_facts d r a ps ho k
    refine ⟨ih.1, ?_, rfl⟩
    show (_ ++ [_]).length = _
    rw [List.length_append, ih.2.1]
    rfl
theorem layK_step {d : Dsk} {r : Rng} {a : Int} {ps : List Txt} {k : Nat} {x : Txt} (h : ps[k]? = some x) : dputW (layK d r a ps k) (r.from_ + roundF r (a + (k : Int))) x = layK d r a ps (k + 1) := by
  show _ = dputW _ _ (ps.getD k [])
  rw [List.getD_eq_getElem?_getD, h]
  rfl
theorem round_in {n : Nat} {r : Rng} (h : ringP n r) (a : Int) : 0 ≤ r.from_ + roundF r a ∧ r.from_ + roundF r a < n := by
  have h3 : 0 ≤ r.from_ ∧ 1 ≤ r.many ∧ r.from_ ≤ n ∧ r.many ≤ n - r.from_ := h
  have h4 := Int.emod_nonneg a (b := r.many) (by omega)
  have h5 := Int.emod_lt_of_pos a (b := r.many) (by omega)
  unfold roundF
  rw [if_neg (by omega)]
  omega
set_option maxRecDepth 100000 in
set_option maxHeartbeats 4000000 in
theorem lay_spec (d : Dsk) (r : Rng) (a : Int) (ps : List Txt) (ho : d.off = false) (okr : OkR r) (hk : d.kept.length ≤ 1000000) (hw : d.w.length ≤ 900000) (hrg : ringP d.kept.length r) (ha : 0 ≤ a ∧ a ≤ 1000000) (hn : ps.length ≤ 1000) (hps : ∀ x ∈ ps, x.length ≤ 64) : FSpec Tryd.prog 21 [.agg [.sl 1 false (d.kept.map txA), .sl 2 false (d.w.map putA), aB d.off], .agg [aI r.from_, aI r.many], aI a, .sl 1 false (ps.map txA)] (.tup [.agg (dskA (layK d r a ps ps.length)), aI 0]) := by
  have hr3 : 0 ≤ r.from_ ∧ 1 ≤ r.many ∧ r.from_ ≤ d.kept.length ∧ r.many ≤ d.kept.length - r.from_ := hrg
  exact spec_vd Tryd.func21 (
 .new fun b1 => .new fun b2 => .new fun b3 => .r 1 <| .r 2 <| .lm 14 ps txA <| .r 1 <| let L1 : Lp (Nat) := ⟨fun a1 => ⟨[(2, aI a), (4, .ptr 4 b1 0), (5, .ptr 5 b2 0), (8, .ptr 8 b3 0), (13, .sl 1 false (ps.map txA)), (14, aI (ps.length : Int)), (15, aI (a1 : Int))], [(4, .box b1 25 [.sl 1 false ((layK d r a ps a1).kept.map txA), .sl 2 false ((layK d r a ps a1).w.map putA), aB ((layK d r a ps a1).off)]), (5, .box b2 27 [aI r.from_, aI r.many]), (8, .box b3 25 [aN, aN, aB false])]⟩, fun a1 => ps.length - a1, fun a1 => a1 ≤ ps.length⟩
 .lp L1 0 (show 0 ≤ ps.length from Nat.zero_le _) [(15, aI 0)] [(4, .box b1 25 [.sl 1 false (d.kept.map txA), .sl 2 false (d.w.map putA), aB d.off])] ⟨Sub.refl _, Sub.refl _, Sub.refl _, Sub.refl _, Sub.refl _, Sub.refl _, sO, trivial⟩ ⟨⟨_, rfl, SubB.refl _⟩, sB, sB, trivial⟩ fun a1 ha1 =>
 (fun (k : Nat) (hH1 : k ≤ ps.length) => have hlf := layK_facts d r a ps ho k; have hri := round_in hrg (a + (k : Int)); .r 1 <| .bd 16 ((k : Int) < (ps.length : Int)) (fun p1 => .r 1 <| .idxM ps txA k (m := (k : Int)) rfl (by omega) fun x1 hx1 =>
 .r 3 <| .r 1 <| .ord [0, 1, 2, 3, 4, 5, 6, 9, 7, 8, 10, 11, 12, 13, 14, 15] <| .run 8 [b1 = b1, b2 = b2, b2 = b2, rng .i64 (a + (k : Int))] ⟨rfl, rfl, rfl, rng64 (by omega) (by omega), trivial⟩ <|
 .call (round_spec r (a + (k : Int)) (by omega) (by omega)) <|
 .run 1 [rng .i64 (r.from_ + (roundF r (a + (k : Int))))] ⟨rng64 (by omega) (by omega), trivial⟩ <|
 .call (write_spec (layK d r a ps k) (r.from_ + roundF r (a + (k : Int))) x1 hlf.2.2 (by rw [hlf.1]; exact round_in hrg _) (hps x1 (List.mem_of_getElem? hx1)) (by omega)) <|
 .u 5 [b1] <|
 .r 2 <| .bn 35 0 0 (fun p2 => .u 4 [b1, b3] <|
 .f (.tup [.agg (dskA (layK d r a ps ps.length)), aI 0]) [b3] (.tup [.agg [.sl 1 false ((dputW (layK d r a ps k) (r.from_ + roundF r (a + (k : Int))) x1).kept.map txA), .sl 2 false ((dputW (layK d r a ps k) (r.from_ + roundF r (a + (k : Int))) x1).w.map putA), aB ((dputW (layK d r a ps k) (r.from_ + roundF r (a + (k : Int))) x1).off)], aI 0]) (by first | exact absurd rfl p2 | exact Sub.of_eq (by rw [show ps.length = k from by omega]; rfl)))
 <| fun p2 => .run 2 [rng .i64 ((k : Int) + 1)] ⟨rng64 (by omega) (by omega), trivial⟩ <|
 .bk L1 k (k + 1) (show (k + 1) ≤ ps.length from (by show _ ≤ _; omega)) (show ps.length - (k + 1) < ps.length - k from (by omega)) [(15, aI ((k : Int) + 1))] [(4, .box b1 25 [.sl 1 false ((dputW (layK d r a ps k) (r.from_ + roundF r (a + (k : Int))) x1).kept.map txA), .sl 2 false ((dputW (layK d r a ps k) (r.from_ + roundF r (a + (k : Int))) x1).w.map putA), aB ((dputW (layK d r a ps k) (r.from_ + roundF r (a + (k : Int))) x1).off)])] ⟨Sub.refl _, Sub.refl _, Sub.refl _, Sub.refl _, Sub.refl _, Sub.refl _, sO, trivial⟩ ⟨⟨_, rfl, SubB.of_eq (congrArg (fun b : Dsk => Bx.box b1 25 (dskA b)) (layK_step hx1))⟩, sB, sB, trivial⟩)
 <| fun p1 => .u 3 [b1, b3] <|
 .f (.tup [.agg (dskA (layK d r a ps ps.length)), aI 0]) [b3] (.tup [.agg [.sl 1 false ((layK d r a ps k).kept.map txA), .sl 2 false ((layK d r a ps k).w.map putA), aB ((layK d r a ps k).off)], aI 0]) (by first | exact absurd rfl p2 | exact Sub.of_eq (by rw [show ps.length = k from by omega]; rfl))) a1 ha1)
end Go.Proofs.YtlcepboedifniaaDoor

set_option linter.unusedVariables false
set_option linter.unusedSimpArgs false
namespace Go.Proofs.YtlcepboedifniaaDoor
open Go Go.RowKit Copyhold
def lg0 (r : Rng) (a n : Int) : Lg := ⟨a, r.many, n, 0⟩
open Classical in
noncomputable def scanD (d : Dsk) (r : Rng) (a n : Int) : Lg × List Txt × Int :=
  if d.off = true then (⟨0, 0, 0, 0⟩, [], 19) else if ringP d.kept.length r ∧ placeP r a then (lgW (lg0 r a n) (toldW d r (lg0 r a n) r.many), toldW d r (lg0 r a n) r.many, 0) else (⟨0, 0, 0, 0⟩, [], 1)
set_option maxRecDepth 100000 in
set_option maxHeartbeats 4000000 in
theorem scan_spec (d : Dsk) (r : Rng) (okd : OkDk d) (hrd : Copyhold.Disk.Right d) (hk : d.kept.length ≤ 200) (okr : OkR r) (a n : Int) (ha : I64 a) (hn : U64 n) : FSpec Tryd.prog 13 [.agg [.sl 1 false (d.kept.map txA), .sl 2 false (d.w.map putA), aB d.off], .agg [aI r.from_, aI r.many], aI a, .val (.int .u64 n)] (.tup [.agg (lgA (scanD d r a n).1), .sl 1 false ((scanD d r a n).2.1.map txA), aI (scanD d r a n).2.2]) := by
  exact spec_vd Tryd.func13 (
 .new fun b1 => .new fun b2 => .new fun b3 => .r 2 <| .u 2 [b1] <|
 .br 14 (d.off) (fun q1 => have p1 := booT q1; .u 4 [b3] <|
 .f (.tup [.agg (lgA (scanD d r a n).1), .sl 1 false ((scanD d r a n).2.1.map txA), aI (scanD d r a n).2.2]) [b3] (.tup [.agg [aI 0, aI 0, .val (.int .u64 0), aI 0], aN, aI 19]) (by
    rw [show scanD d r a n = _ from if_pos q1]
    exact Sub.tups ⟨Sub.refl _, Sub.nil _ _, Sub.refl _, trivial⟩))
 <| fun q1 => have p1 := booF q1; .u 2 [b1, b2] <|
 .call (ringed_spec d r okr (by omega)) <|
 .r 2 <| .br 20 (!(dP (ringP d.kept.length r))) (fun q2 => have q2 := notT q2; have p2 := booF q2; .r 5 <| .u 4 [b3] <|
 .f (.tup [.agg (lgA (scanD d r a n).1), .sl 1 false ((scanD d r a n).2.1.map txA), aI (scanD d r a n).2.2]) [b3] (.tup [.agg [aI 0, aI 0, .val (.int .u64 0), aI 0], aN, aI 1]) (by
    rw [show scanD d r a n = _ from (if_neg (by rw [q1]; decide)).trans (if_neg (fun h => dP_false.1 q2 h.1))]
    exact Sub.tups ⟨Sub.refl _, Sub.nil _ _, Sub.refl _, trivial⟩))
 <| fun q2 => have q2 := notF q2; have p2 := booT q2; .u 2 [b2] <|
 .call (placed_spec r a) <|
 .r 2 <| .br 25 (!(dP (placeP r a))) (fun q3 => have q3 := notT q3; have p3 := booF q3; .u 4 [b3] <|
 .f (.tup [.agg (lgA (scanD d r a n).1), .sl 1 false ((scanD d r a n).2.1.map txA), aI (scanD d r a n).2.2]) [b3] (.tup [.agg [aI 0, aI 0, .val (.int .u64 0), aI 0], aN, aI 1]) (by
    rw [show scanD d r a n = _ from (if_neg (by rw [q1]; decide)).trans (if_neg (fun h => dP_false.1 q3 h.2))]
    exact Sub.tups ⟨Sub.refl _, Sub.nil _ _, Sub.refl _, trivial⟩))
 <| fun q3 => have q3 := notF q3; have p3 := booT q3; .u 9 [b1, b2, b2, b2] <|
 .call (found_spec d r (lg0 r a n) okd hrd hk okr ⟨ha, okr.m, hn, (show I64 0 from ⟨by decide, by decide⟩)⟩ r.many okr.m) <|
 .r 3 <| .new fun b4 => .u 2 [b4] <|
 .u 5 [b4, b3] <|
 .f (.tup [.agg (lgA (scanD d r a n).1), .sl 1 false ((scanD d r a n).2.1.map txA), aI (scanD d r a n).2.2]) [b3] (.tup [.agg [aI ((lgW (lg0 r a n) (toldW d r (lg0 r a n) r.many)).at_), aI ((lgW (lg0 r a n) (toldW d r (lg0 r a n) r.many)).used), .val (.int .u64 ((lgW (lg0 r a n) (toldW d r (lg0 r a n) r.many)).first)), aI ((lgW (lg0 r a n) (toldW d r (lg0 r a n) r.many)).many)], .sl 1 false ((toldW d r (lg0 r a n) r.many).map txA), aI 0]) (by
    rw [show scanD d r a n = _ from (if_neg (by rw [q1]; decide)).trans (if_pos ⟨dP_true.1 q2, dP_true.1 q3⟩)]
    exact Sub.tups ⟨Sub.refl _, Sub.refl _, Sub.refl _, trivial⟩))
end Go.Proofs.YtlcepboedifniaaDoor

set_option linter.unusedVariables false
set_option linter.unusedSimpArgs false
namespace Go.Proofs.YtlcepboedifniaaDoor
open Go Go.RowKit Copyhold Copyhold.Disk
def nxtN (l : Lg) : Int := (l.first + l.many) % 18446744073709551616
def laidD (d : Dsk) (r : Rng) (l : Lg) (s : Txt) : Dsk := layK d r (l.at_ + l.used) (cutF (recB (nxtN l) s)) (cutF (recB (nxtN l) s)).length
def appD (d : Dsk) (r : Rng) (l : Lg) (s : Txt) : Dsk × Lg × Int :=
  if d.off = true then (d, l, 19) else if 4096 < s.length then (d, l, 5) else if r.many - (needB s : Int) < l.used then (d, l, 12) else (laidD d r l s, ⟨l.at_, l.used + (needB s : Int), l.first, l.many + 1⟩, 0)
set_option maxRecDepth 100000 in
set_option maxHeartbeats 4000000 in
theorem append_spec (d : Dsk) (r : Rng) (l : Lg) (s : Txt) (okr : OkR r) (okl : OkL l) (hk : d.kept.length ≤ 1000000) (hw : d.w.length ≤ 900000) (hrg : ringP d.kept.length r) (h0 : 0 ≤ l.at_ + l.used ∧ l.at_ + l.used ≤ 1000000) (hu : -100000 ≤ l.used ∧ l.used ≤ 100000) (hm : 0 ≤ l.many ∧ l.many ≤ 100000) (hs : s.length ≤ 1000000) : FSpec Tryd.prog 10 [.agg [.sl 1 false (d.kept.map txA), .sl 2 false (d.w.map putA), aB d.off], .agg [aI r.from_, aI r.many], .agg [aI l.at_, aI l.used, .val (.int .u64 l.first), aI l.many], aS s] (.tup [.agg (dskA (appD d r l s).1), .agg (lgA (appD d r l s).2.1), aI (appD d r l s).2.2]) := by
  have hr3 : 0 ≤ r.from_ ∧ 1 ≤ r.many ∧ r.from_ ≤ d.kept.length ∧ r.many ≤ d.kept.length - r.from_ := hrg
  have hrl := recB_len ((l.first + l.many) % 18446744073709551616) s
  have hrl0 := recB_len 0 s
  have htl := textB_len s (by omega)
  have hnb : needB s = ((recB 0 s).length + 63) / 64 := rfl
  have hof := okl.f.1
  have hof2 := okl.f.2
  exact spec_vd Tryd.func10 (
 .new fun b1 => .new fun b2 => .new fun b3 => .new fun b4 => .new fun b5 => .r 1 <| .u 2 [b1] <|
 .br 16 (d.off) (fun q1 => have p1 := booT q1; let J1 : Jn (Unit) := ⟨fun j1 => ⟨[(3, aS s), (4, .ptr 4 b1 0), (5, .ptr 5 b2 0), (6, .ptr 6 b3 0), (8, .ptr 8 b4 0), (9, .ptr 9 b5 0), (10, aI 19)], [(4, .box b1 25 [.sl 1 false (d.kept.map txA), .sl 2 false (d.w.map putA), aB d.off]), (5, .box b2 27 [aI r.from_, aI r.many]), (6, .box b3 30 [aI l.at_, aI l.used, .val (.int .u64 l.first), aI l.many]), (8, .box b4 25 [.sl 1 false (d.kept.map txA), .sl 2 false (d.w.map putA), aB d.off]), (9, .box b5 30 [aI l.at_, aI l.used, .val (.int .u64 l.first), aI l.many])]⟩, fun _ => True⟩
 .cut J1 (.pick [0] <| .u 1 [b1] <|
 .fork <| .alt (.u 1 [b3] <|
 .pick [2, 3, 4] <| .u 3 [b4, b5] <|
 .jo J1 () [] [] ⟨Sub.refl _, Sub.refl _, Sub.refl _, Sub.refl _, Sub.refl _, Sub.refl _, Sub.refl _, trivial⟩ bb5)
 <| .u 1 [b4] <|
 .pick [1, 3, 4] <| .u 3 [b3, b5] <|
 .jo J1 () [] [] ⟨Sub.refl _, Sub.refl _, Sub.refl _, Sub.refl _, Sub.refl _, Sub.refl _, Sub.refl _, trivial⟩ bb5)
 <| fun _ _ => .f (.tup [.agg (dskA (appD d r l s).1), .agg (lgA (appD d r l s).2.1), aI (appD d r l s).2.2]) [b4, b5] (.tup [.agg [.sl 1 false (d.kept.map txA), .sl 2 false (d.w.map putA), aB d.off], .agg [aI l.at_, aI l.used, .val (.int .u64 l.first), aI l.many], aI 19]) (by first | contradiction | exact Sub.of_eq (by unfold appD; (repeat first | rw [if_pos (by first | assumption | omega)] | rw [if_neg (by first | omega | simp_all)]); rfl)))
 <| fun q1 => have p1 := booF q1; .r 3 <| .br 21 (decide (((s).length : Int) > 4096)) (fun q2 => have p2 := decT q2; let J2 : Jn (Unit) := ⟨fun j2 => ⟨[(3, aS s), (4, .ptr 4 b1 0), (5, .ptr 5 b2 0), (6, .ptr 6 b3 0), (8, .ptr 8 b4 0), (9, .ptr 9 b5 0), (10, aI 5)], [(4, .box b1 25 [.sl 1 false (d.kept.map txA), .sl 2 false (d.w.map putA), aB d.off]), (5, .box b2 27 [aI r.from_, aI r.many]), (6, .box b3 30 [aI l.at_, aI l.used, .val (.int .u64 l.first), aI l.many]), (8, .box b4 25 [.sl 1 false (d.kept.map txA), .sl 2 false (d.w.map putA), aB d.off]), (9, .box b5 30 [aI l.at_, aI l.used, .val (.int .u64 l.first), aI l.many])]⟩, fun _ => True⟩
 .cut J2 (.pick [0] <| .u 1 [b1] <|
 .fork <| .alt (.u 1 [b3] <|
 .pick [2, 3, 4] <| .u 3 [b4, b5] <|
 .jo J2 () [] [] ⟨Sub.refl _, Sub.refl _, Sub.refl _, Sub.refl _, Sub.refl _, Sub.refl _, Sub.refl _, trivial⟩ bb5)
 <| .u 1 [b4] <|
 .pick [1, 3, 4] <| .u 3 [b3, b5] <|
 .jo J2 () [] [] ⟨Sub.refl _, Sub.refl _, Sub.refl _, Sub.refl _, Sub.refl _, Sub.refl _, Sub.refl _, trivial⟩ bb5)
 <| fun _ _ => .f (.tup [.agg (dskA (appD d r l s).1), .agg (lgA (appD d r l s).2.1), aI (appD d r l s).2.2]) [b4, b5] (.tup [.agg [.sl 1 false (d.kept.map txA), .sl 2 false (d.w.map putA), aB d.off], .agg [aI l.at_, aI l.used, .val (.int .u64 l.first), aI l.many], aI 5]) (by first | contradiction | exact Sub.of_eq (by unfold appD; (repeat first | rw [if_pos (by first | assumption | omega)] | rw [if_neg (by first | omega | simp_all)]); rfl)))
 <| fun q2 => have p2 := decF q2; .r 1 <| .call (need_spec s (by omega)) <|
 .r 1 <| .run 7 [b3 = b3, b2 = b2, rng .i64 (r.many - (needB s : Int))] ⟨rfl, rfl, rng64 (by omega) (by omega), trivial⟩ <|
 .br 32 (decide (l.used > (r.many - (needB s : Int)))) (fun q3 => have p3 := decT q3; let J3 : Jn (Unit) := ⟨fun j3 => ⟨[(3, aS s), (4, .ptr 4 b1 0), (5, .ptr 5 b2 0), (6, .ptr 6 b3 0), (8, .ptr 8 b4 0), (9, .ptr 9 b5 0), (10, aI 12), (11, aI (needB s : Int))], [(4, .box b1 25 [.sl 1 false (d.kept.map txA), .sl 2 false (d.w.map putA), aB d.off]), (5, .box b2 27 [aI r.from_, aI r.many]), (6, .box b3 30 [aI l.at_, aI l.used, .val (.int .u64 l.first), aI l.many]), (8, .box b4 25 [.sl 1 false (d.kept.map txA), .sl 2 false (d.w.map putA), aB d.off]), (9, .box b5 30 [aI l.at_, aI l.used, .val (.int .u64 l.first), aI l.many])]⟩, fun _ => True⟩
 .cut J3 (.pick [0] <| .u 1 [b1] <|
 .fork <| .alt (.u 1 [b3] <|
 .pick [2, 3, 4] <| .u 3 [b4, b5] <|
 .jo J3 () [] [] ⟨Sub.refl _, Sub.refl _, Sub.refl _, Sub.refl _, Sub.refl _, Sub.refl _, Sub.refl _, Sub.refl _, trivial⟩ bb5)
 <| .u 1 [b4] <|
 .pick [1, 3, 4] <| .u 3 [b3, b5] <|
 .jo J3 () [] [] ⟨Sub.refl _, Sub.refl _, Sub.refl _, Sub.refl _, Sub.refl _, Sub.refl _, Sub.refl _, Sub.refl _, trivial⟩ bb5)
 <| fun _ _ => .f (.tup [.agg (dskA (appD d r l s).1), .agg (lgA (appD d r l s).2.1), aI (appD d r l s).2.2]) [b4, b5] (.tup [.agg [.sl 1 false (d.kept.map txA), .sl 2 false (d.w.map putA), aB d.off], .agg [aI l.at_, aI l.used, .val (.int .u64 l.first), aI l.many], aI 12]) (by first | contradiction | exact Sub.of_eq (by unfold appD; (repeat first | rw [if_pos (by first | assumption | omega)] | rw [if_neg (by first | omega | simp_all)]); rfl)))
 <| fun q3 => have p3 := decF q3; .u 4 [b3, b3] <|
 .op (cvR) (3, 28, .int .i64 l.many, some 39) (fun (_ : Unit) σ => σ.put (some 39) (.val (.int .u64 l.many))) (rule_cv (conv_int (by kernel_rfl) (by kernel_rfl) (rngu (by omega) (by omega)))) fun _ =>
 .binV .add 28 (addW (a := l.first) (b := l.many)) <|
 .r 1 <| .call (record_spec ((l.first + l.many) % 18446744073709551616) s ⟨by omega, by omega⟩ (by omega)) <|
 .r 1 <| let J4 : Jn (Nat) := ⟨fun j4 => ⟨[(4, .ptr 4 b1 0), (6, .ptr 6 b3 0), (8, .ptr 8 b4 0), (9, .ptr 9 b5 0), (10, aI 0), (11, aI (needB s : Int)), (13, .ptr 13 j4 0), (14, aI 0)], [(4, .box b1 25 [.sl 1 false (d.kept.map txA), .sl 2 false (d.w.map putA), aB d.off]), (6, .box b3 30 [aI l.at_, aI l.used, .val (.int .u64 l.first), aI l.many]), (8, .box b4 25 [aN, aN, aB false]), (9, .box b5 30 [aI 0, aI 0, .val (.int .u64 0), aI 0]), (13, .box j4 25 [.sl 1 false ((laidD d r l s).kept.map txA), .sl 2 false ((laidD d r l s).w.map putA), aB ((laidD d r l s).off)])]⟩, fun _ => True⟩
 .cut J4 (.pick [0, 1, 2, 3, 4, 5, 6, 7] <| .run 8 [b1 = b1, b2 = b2, b3 = b3, b3 = b3, rng .i64 (l.at_ + l.used)] ⟨rfl, rfl, rfl, rfl, rng64 (by omega) (by omega), trivial⟩ <|
 .fork <| .alt (.call (cut_spec (recB ((l.first + l.many) % 18446744073709551616) s) (by omega)) <|
 .fork <| .alt (.call (lay_spec d r (l.at_ + l.used) (cutF (recB ((l.first + l.many) % 18446744073709551616) s)) q1 okr hk hw hrg h0 (by rw [cutF_len]; unfold cutN; omega) (cutF_small _)) <|
 .pick [10, 11, 12, 13, 14, 15] <| .r 3 <| .new fun b6 => .u 2 [b6] <|
 .jo J4 b6 [] [] ⟨Sub.refl _, Sub.refl _, Sub.refl _, Sub.refl _, Sub.refl _, Sub.refl _, Sub.refl _, Sub.refl _, trivial⟩ bb5)
 <| .new fun b7 => .pick [9, 10, 11, 12, 14, 15] <| .call (lay_spec d r (l.at_ + l.used) (cutF (recB ((l.first + l.many) % 18446744073709551616) s)) q1 okr hk hw hrg h0 (by rw [cutF_len]; unfold cutN; omega) (cutF_small _)) <|
 .u 5 [b7] <|
 .jo J4 b7 [] [] ⟨Sub.refl _, Sub.refl _, Sub.refl _, Sub.refl _, Sub.refl _, Sub.refl _, Sub.refl _, Sub.refl _, trivial⟩ bb5)
 <| .new fun b8 => .pick [8, 9, 10, 11, 12, 14, 15] <| .call (cut_spec (recB ((l.first + l.many) % 18446744073709551616) s) (by omega)) <|
 .call (lay_spec d r (l.at_ + l.used) (cutF (recB ((l.first + l.many) % 18446744073709551616) s)) q1 okr hk hw hrg h0 (by rw [cutF_len]; unfold cutN; omega) (cutF_small _)) <|
 .u 5 [b8] <|
 .jo J4 b8 [] [] ⟨Sub.refl _, Sub.refl _, Sub.refl _, Sub.refl _, Sub.refl _, Sub.refl _, Sub.refl _, Sub.refl _, trivial⟩ bb5)
 <| fun j4 _ => (fun (b9 : Nat) => .r 2 <| .br 57 (0 != 0) (fun q4 => have p4 := bneT q4; let J5 : Jn (Unit) := ⟨fun j5 => ⟨[(6, .ptr 6 b3 0), (8, .ptr 8 b4 0), (9, .ptr 9 b5 0), (10, aI 0), (11, aI (needB s : Int)), (13, .ptr 13 b9 0)], [(6, .box b3 30 [aI l.at_, aI l.used, .val (.int .u64 l.first), aI l.many]), (8, .box b4 25 [.sl 1 false (d.kept.map txA), .sl 2 false (d.w.map putA), aB d.off]), (9, .box b5 30 [aI l.at_, aI l.used, .val (.int .u64 l.first), aI l.many]), (13, .box b9 25 [.sl 1 false ((laidD d r l s).kept.map txA), .sl 2 false ((laidD d r l s).w.map putA), aB ((laidD d r l s).off)])]⟩, fun _ => True⟩
 .cut J5 (.pick [0, 2] <| .u 2 [b1] <|
 .fork <| .alt (.u 1 [b3] <|
 .pick [3, 4, 5] <| .u 3 [b4, b5] <|
 .jo J5 () [] [] ⟨Sub.refl _, Sub.refl _, Sub.refl _, Sub.refl _, Sub.refl _, Sub.refl _, trivial⟩ bb4)
 <| .u 1 [b4] <|
 .pick [1, 4, 5] <| .u 3 [b3, b5] <|
 .jo J5 () [] [] ⟨Sub.refl _, Sub.refl _, Sub.refl _, Sub.refl _, Sub.refl _, Sub.refl _, trivial⟩ bb4)
 <| fun _ _ => .f (.tup [.agg (dskA (appD d r l s).1), .agg (lgA (appD d r l s).2.1), aI (appD d r l s).2.2]) [b4, b5] (.tup [.agg [.sl 1 false (d.kept.map txA), .sl 2 false (d.w.map putA), aB d.off], .agg [aI l.at_, aI l.used, .val (.int .u64 l.first), aI l.many], aI 0]) (by first | contradiction | exact Sub.of_eq (by unfold appD; (repeat first | rw [if_pos (by first | assumption | omega)] | rw [if_neg (by first | omega | simp_all)]); rfl)))
 <| fun q4 => have p4 := bneF q4; .run 6 [b3 = b3, rng .i64 (l.used + (needB s : Int)), b3 = b3] ⟨rfl, rng64 (by omega) (by omega), rfl, trivial⟩ <|
 .run 5 [b3 = b3, rng .i64 (l.many + 1), b3 = b3] ⟨rfl, rng64 (by omega) (by omega), rfl, trivial⟩ <|
 let J6 : Jn (Unit) := ⟨fun j6 => ⟨[(8, .ptr 8 b4 0), (9, .ptr 9 b5 0), (10, aI 0)], [(8, .box b4 25 [.sl 1 false ((laidD d r l s).kept.map txA), .sl 2 false ((laidD d r l s).w.map putA), aB ((laidD d r l s).off)]), (9, .box b5 30 [aI l.at_, aI (l.used + (needB s : Int)), .val (.int .u64 l.first), aI (l.many + 1)])]⟩, fun _ => True⟩
 .cut J6 (.pick [0] <| .u 1 [b9] <|
 .fork <| .alt (.u 1 [b3] <|
 .pick [2, 3, 4] <| .u 3 [b4, b5] <|
 .jo J6 () [] [] ⟨Sub.refl _, Sub.refl _, Sub.refl _, trivial⟩ bb2)
 <| .u 1 [b4] <|
 .pick [1, 3, 4] <| .u 3 [b3, b5] <|
 .jo J6 () [] [] ⟨Sub.refl _, Sub.refl _, Sub.refl _, trivial⟩ bb2)
 <| fun _ _ => .f (.tup [.agg (dskA (appD d r l s).1), .agg (lgA (appD d r l s).2.1), aI (appD d r l s).2.2]) [b4, b5] (.tup [.agg [.sl 1 false ((laidD d r l s).kept.map txA), .sl 2 false ((laidD d r l s).w.map putA), aB ((laidD d r l s).off)], .agg [aI l.at_, aI (l.used + (needB s : Int)), .val (.int .u64 l.first), aI (l.many + 1)], aI 0]) (by first | contradiction | exact Sub.of_eq (by unfold appD; (repeat first | rw [if_pos (by first | assumption | omega)] | rw [if_neg (by first | omega | simp_all)]); rfl))) j4)
end Go.Proofs.YtlcepboedifniaaDoor

set_option linter.unusedVariables false
set_option linter.unusedSimpArgs false
namespace Go.Proofs.YtlcepboedifniaaDoor
open Go Go.RowKit Copyhold Copyhold.Disk
def cvB (ops : Array Oper) (s : LS) (i : Nat) : Option (TypeId × TypeId × Nat × Value × Value × TypeId × Nat × List (List AV) × Option Tmp) :=
  match opAt ops s i with
  | some o =>
    match o.op with
    | .convert a b y =>
      match s.ev y with
      | .rw q V n =>
        match bget s.bx q with
        | some (.row V' e k xs) => some (a, b, n, V, V', e, k, xs, o.dst)
        | _ => none
      | _ => none
    | _ => none
  | none => none
theorem rule_cvB {P : Program} {a b e : TypeId} {n : Nat} {V : Value} {xs : List (List AV)} {d : Option Tmp} (l : List UInt8) (hx : xs = l.map fun c => [AV.val (.int .u8 (c.toNat : Int))]) (hn : n = l.length) (h0 : 0 < n)
    (hs : P.underlying a = some (.slice e)) (he : P.underlying e = some (.int .u8)) (hd : P.underlying b = some .string) :
    ∀ (ops : Array Oper) (i : Nat) (s : LS) (K : FS → Prop) (rest : List Nat), cvB ops s i = some (a, b, n, V, V, e, 1, xs, d) → (∀ _ : Unit, SeqR P ops K rest (s.put d (aS l)).fs) → SeqR P ops K (i :: rest) s.fs := by
  intro ops i s K rest h kk
  unfold cvB at h
  split at h
  · rename_i o ho
    obtain ⟨hi, hg⟩ := opAt_ok ho
    split at h
    · rename_i a' b' y hop
      split at h
      · rename_i q V1 n1 ha
        split at h
        · rename_i V2 e2 k2 xs2 hb
          simp only [Option.some.injEq, Prod.mk.injEq] at h
          obtain ⟨rfl, rfl, rfl, rfl, rfl, rfl, rfl, rfl, rfl⟩ := h
          refine ⟨o, hi, .inr ⟨hg, .inl ⟨aS l, .inr ⟨by rw [hop]; rfl, fun D w ρ hops hbx => ?_⟩, by rw [LS.fs_put]; exact kk ()⟩⟩⟩
          have hv := arg_of hops y (by simp [hop, Op.operands])
          rw [ha] at hv
          generalize hvv : ρ y = v at hv
          have hbq := hbx q _ hb
          cases hv with
          | rw id n cap A =>
            subst hn
            have hA : ∃ g, A = some ⟨g, 0, none⟩ := by
              obtain ⟨hk, us, hown, hus, hru⟩ := hbq
              rcases hown.2 with ⟨hV, hl⟩ | ⟨g, cap', cur, hV, _⟩
              · exfalso
                simp only [Value.slice.injEq] at hV
                omega
              · exact ⟨g, by simp only [Value.slice.injEq] at hV; exact hV.1⟩
            obtain ⟨g, rfl⟩ := hA
            refine ⟨.string ⟨l.toArray⟩, ?_, .val _⟩
            have hrun := run_convert_bytes_back (P := P) w a' b' e2 ⟨g, 0, none⟩ cap l hs he hd (fun j hj => by
              have hc := row_cells hbq (j := j) (cs := [AV.val (.int .u8 (l[j].toNat : Int))]) (by rw [hx, List.getElem?_map, List.getElem?_eq_getElem hj]; rfl)
              obtain ⟨v, h1, _, h3⟩ := hc 0 _ rfl
              cases h3
              rw [add_plain', Nat.zero_add]
              simpa using h1)
            simp [execOp, hop, hvv, hrun]
        · cases h
      · cases h
    · cases h
  · cases h
theorem filled_spec (s : Txt) (h : s.length ≤ 64) : FSpec Tryd.prog 31 [aS s] (aS (padL s)) := fspec_plain (fun _ _ => .val _) fun D w vs hv => by
  obtain ⟨u, rfl, hu⟩ := ra_one hv
  cases hu
  exact (ref04_filled s w h).mono fun e w' hh => ⟨hh.1, by rw [hh.2]; exact Below.refl _ _⟩
def zS : Txt := padL []
set_option maxRecDepth 100000 in
set_option maxHeartbeats 4000000 in
theorem new_spec (m : Nat) (h1 : 1 ≤ m) (h2 : m ≤ 4096) : FSpec Tryd.prog 17 [aI (m : Int)] (.tup [.agg [.sl 1 false ((List.replicate m zS).map txA), .sl 2 false ([] : List (List AV)), aB false], aI 0]) := by
  exact spec_vd Tryd.func17 (
 .new fun b1 => .r 1 <| .r 3 <| .is 9 (show (decide ((m : Int) < 1)) = false from (decide_eq_false (by omega))) <| .r 3 <| .is 12 (show (decide ((m : Int) > 4096)) = false from (decide_eq_false (by omega))) <| .r 1 <| .new fun b2 => .u 1 [b2] <|
 .call (filled_spec [] (by decide)) <|
 .r 1 <| .r 1 <| .rowNilB 100 4 0 9 1 <| let L1 : Lp (Nat × Value) := ⟨fun a1 => ⟨[(0, aI (m : Int)), (2, .ptr 2 b1 0), (4, .ptr 4 b2 0), (5, aS zS), (6, aI (a1.1 : Int))], [(2, .box b1 25 [aN, aN, aB false]), (4, .box b2 25 [.rw 100 a1.2 ((List.replicate a1.1 zS).length), aN, aB false]), (100, .row a1.2 9 1 ((List.replicate a1.1 zS).map txA))]⟩, fun a1 => m - a1.1, fun a1 => a1.1 ≤ m⟩
 .lp L1 (0, .slice none 0 0) (show 0 ≤ m from Nat.zero_le _) [(6, aI 0)] [(4, .box b2 25 [.rw 100 (.slice none 0 0) 0, aN, aB false]), (100, .row (.slice none 0 0) 9 1 ([]))] ⟨Sub.refl _, Sub.refl _, Sub.refl _, Sub.refl _, sO, trivial⟩ ⟨sB, ⟨_, rfl, SubB.of_eq (by simp)⟩, ⟨_, rfl, SubB.of_eq (by simp)⟩, trivial⟩ fun a1 ha1 =>
 (fun (k : Nat) (V : Value) (hH1 : k ≤ m) => .r 3 <| .bd 18 ((k : Int) < (m : Int)) (fun p1 => .u 4 [b2] <|
 .app 16 V ((List.replicate k zS).map txA) ([[aS zS]]) (by simp only [List.length_map, List.length_replicate, List.length_cons, List.length_nil, List.length_append]; omega) (by simp only [List.length_map, List.length_replicate, List.length_cons, List.length_nil, List.length_append]; omega) fun V1 =>
 .u 2 [b2] <|
 .run 3 [rng .i64 ((k : Int) + 1)] ⟨rng64 (by omega) (by omega), trivial⟩ <|
 .bk L1 (k, V) ((k + 1), V1) (show (k + 1) ≤ m from (by show _ ≤ _; omega)) (show m - (k + 1) < m - k from (by omega)) [(6, aI ((k : Int) + 1))] [(4, .box b2 25 [.rw 100 V1 (((List.replicate k zS).map txA).length + ([[aS zS]] : List (List AV)).length), aN, aB false]), (100, .row V1 9 1 (((List.replicate k zS).map txA) ++ ([[aS zS]])))] ⟨Sub.refl _, Sub.refl _, Sub.refl _, Sub.refl _, sO, trivial⟩ ⟨sB, ⟨_, rfl, SubB.of_eq (by simp)⟩, ⟨_, rfl, SubB.of_eq (by rw [List.replicate_succ']; simp [txA, zS])⟩, trivial⟩)
 <| fun p1 => .u 3 [b2, b1] <|
 .frz 100 [2, 3] [2] [V = V, (List.replicate k zS).length = ((List.replicate k zS).map txA).length] ⟨rfl, (by first | rfl | (simp; done) | (simp; omega)), trivial⟩ <|
 .f (.tup [.agg [.sl 1 false ((List.replicate m zS).map txA), .sl 2 false ([] : List (List AV)), aB false], aI 0]) [b1] (.tup [.agg [.sl 1 false ((List.replicate k zS).map txA), aN, aB false], aI 0]) (by exact Sub.tups ⟨Sub.aggs ⟨Sub.of_eq (by rw [show m = k from by omega]), Sub.nil _ _, Sub.refl _, trivial⟩, Sub.refl _, trivial⟩)) a1.1 a1.2 ha1)
end Go.Proofs.YtlcepboedifniaaDoor

set_option linter.unusedVariables false
set_option linter.unusedSimpArgs false
namespace Go.Proofs.YtlcepboedifniaaDoor
open Go Go.RowKit Copyhold Copyhold.Disk
def tD0 : Dsk := ⟨List.replicate 2 zS, [], false⟩
def tR : Rng := ⟨0, 2⟩
def tL : Lg := ⟨0, 0, 7, 0⟩
def tN : Lg := ⟨0, 1, 7, 1⟩
def tD1 : Dsk := laidD tD0 tR tL [104, 105]
def tT : List Txt := [[104, 105]]
theorem tR_ok : OkR tR := ⟨⟨by decide, by decide⟩, ⟨by decide, by decide⟩⟩
theorem tL_ok : OkL tL := ⟨⟨by decide, by decide⟩, ⟨by decide, by decide⟩, ⟨by decide, by decide⟩, ⟨by decide, by decide⟩⟩
theorem new_shown : FSpec Tryd.prog 17 [aI 2] (.tup [.agg (dskA tD0), aI 0]) := new_spec 2 (by decide) (by decide)
theorem tring0 : ringP tD0.kept.length tR := show (0 : Int) ≤ 0 ∧ (1 : Int) ≤ 2 ∧ (0 : Int) ≤ (tD0.kept.length : Int) ∧ (2 : Int) ≤ (tD0.kept.length : Int) - 0 from by decide +kernel
theorem tring1 : ringP tD1.kept.length tR := show (0 : Int) ≤ 0 ∧ (1 : Int) ≤ 2 ∧ (0 : Int) ≤ (tD1.kept.length : Int) ∧ (2 : Int) ≤ (tD1.kept.length : Int) - 0 from by decide +kernel
theorem app_eq : appD tD0 tR tL [104, 105] = (tD1, tN, 0) := by
  unfold appD
  rw [if_neg (by decide), if_neg (by decide), if_neg (by decide +kernel)]
  exact Prod.ext rfl (Prod.ext (by decide +kernel) rfl)
theorem app_shown : FSpec Tryd.prog 10 [.agg (dskA tD0), .agg (rngA tR), .agg (lgA tL), aS [104, 105]] (.tup [.agg (dskA tD1), .agg (lgA tN), aI 0]) := by
  have h := append_spec tD0 tR tL [104, 105] tR_ok tL_ok (by decide) (by decide) tring0 ⟨by decide, by decide⟩ ⟨by decide, by decide⟩ ⟨by decide, by decide⟩ (by decide)
  rw [app_eq] at h
  exact h
theorem tgood : goodW tD1 tR (lg0 tR 0 7) := ⟨tring1, ⟨by decide, by decide⟩, by decide, by decide⟩
theorem trecs : recsG (segI tD1 tR (lg0 tR 0 7)) 7 = tT := by decide +kernel
theorem ttold : toldW tD1 tR (lg0 tR 0 7) tR.many = tT := by
  rw [toldW_good tgood]
  show (recsG (segI tD1 tR (lg0 tR 0 7)) 7).take 2 = tT
  rw [trecs]
  rfl
theorem scan_eq : scanD tD1 tR 0 7 = (tN, tT, 0) := by
  unfold scanD
  rw [if_neg (by decide +kernel), if_pos ⟨tring1, ⟨by decide, by decide⟩⟩, ttold]
  exact Prod.ext (by decide +kernel) rfl
theorem tD1_ok : OkDk tD1 := ⟨by decide +kernel, by decide +kernel, by
    intro x hx
    have hd : ∀ x ∈ tD1.w, (0 ≤ x.1 ∧ x.1 ≤ 2) ∧ x.2.length ≤ 64 := by decide +kernel
    have := hd x hx
    unfold okPut
    omega, by decide +kernel⟩
theorem scan_shown : FSpec Tryd.prog 13 [.agg (dskA tD1), .agg (rngA tR), aI 0, .val (.int .u64 7)] (.tup [.agg (lgA tN), .sl 1 false (tT.map txA), aI 0]) := by
  have h := scan_spec tD1 tR tD1_ok (by decide +kernel) (by decide +kernel) tR_ok 0 7 ⟨by decide, by decide⟩ ⟨by decide, by decide⟩
  rw [scan_eq] at h
  exact h
theorem need_47 : FSpec Tryd.prog 14 [aS (List.replicate 47 0)] (aI 1) := by
  have h := need_spec (List.replicate 47 0) (by decide)
  rw [show needB (List.replicate 47 0) = 1 from by decide +kernel] at h
  exact h
theorem need_52 : FSpec Tryd.prog 14 [aS (List.replicate 52 0)] (aI 2) := by
  have h := need_spec (List.replicate 52 0) (by decide)
  rw [show needB (List.replicate 52 0) = 2 from by decide +kernel] at h
  exact h
set_option maxRecDepth 100000 in
set_option maxHeartbeats 4000000 in
theorem shown5  : FSpec Tryd.prog 7 [] (aB true) := by
  exact spec_vd Tryd.func7 (
 .r 1 <| .call (new_shown) <|
 .r 3 <| .new fun b1 => .u 2 [b1] <|
 .r 1 <| .new fun b2 => .u 1 [b2] <|
 .u 3 [b1, b2] <|
 .call (app_shown) <|
 .r 4 <| .new fun b3 => .u 3 [b1, b3] <|
 .u 2 [b1, b2] <|
 .call (scan_shown) <|
 .r 4 <| .new fun b4 => .u 3 [b4] <|
 .r 3 <| .is 31 (show (0 == 0) = true from rfl) <| .r 4 <| .is 35 (show (0 == 0) = true from rfl) <| .u 5 [b3] <|
 .is 40 (show (1 == 1) = true from rfl) <| .u 5 [b3] <|
 .is 45 (show (1 == 1) = true from rfl) <| .r 2 <| .lm 47 tT txA <| .r 3 <| .is 50 (show ((tT.length : Int) == 1) = true from rfl) <| .r 1 <| .idxM tT txA 0 (m := 0) (show (0 : Int) = ((0 : Nat) : Int) from rfl) (by decide) fun x1 hx1 =>
 .r 4 <| .is 56 (show (x1 == ([104, 105])) = true from (by cases (Option.some.inj (show some ([104, 105] : Txt) = some x1 from hx1)); rfl)) <| .op (mkN Tryd.prog) (57, 47, 47, 5, [.val (.int .u8 0)], 57) (fun (V : Value) σ => (σ.put (some 57) (.rw 57 V 47)).setB 57 (.row V 5 1 (List.replicate 47 [.val (.int .u8 0)]))) (rule_mkN 47 1 (by kernel_rfl) (by omega) (by omega) (by omega)) fun V1 =>
 .op cvB (57, 9, 47, V1, V1, 5, 1, List.replicate 47 [.val (.int .u8 0)], some 58) (fun (_ : Unit) σ => σ.put (some 58) (aS (List.replicate 47 0))) (rule_cvB (List.replicate 47 0) (by rfl) rfl (by decide) rfl rfl rfl) fun _ =>
 .call (need_47) <|
 .r 3 <| .is 62 (show (1 == 1) = true from rfl) <| .op (mkN Tryd.prog) (57, 52, 52, 5, [.val (.int .u8 0)], 63) (fun (V : Value) σ => (σ.put (some 63) (.rw 63 V 52)).setB 63 (.row V 5 1 (List.replicate 52 [.val (.int .u8 0)]))) (rule_mkN 52 1 (by kernel_rfl) (by omega) (by omega) (by omega)) fun V2 =>
 .op cvB (57, 9, 52, V2, V2, 5, 1, List.replicate 52 [.val (.int .u8 0)], some 64) (fun (_ : Unit) σ => σ.put (some 64) (aS (List.replicate 52 0))) (rule_cvB (List.replicate 52 0) (by rfl) rfl (by decide) rfl rfl rfl) fun _ =>
 .call (need_52) <|
 .r 3 <| .fi (aB true) [])
end Go.Proofs.YtlcepboedifniaaDoor
