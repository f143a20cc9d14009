/- redo.found, Scan, Texts, Drop, Right. redo.cut, lay. redo.Scan, Texts, Drop. redo.Append. Logs: records one behind the other, in whole sectors. -/
import Derived.Test.YtlcepboedifniaaGreatDoorRdoWZ5
import Derived.Test.YtlcepboedifniaaGreatDoorMrgL
set_option linter.unusedVariables false
set_option linter.unusedSimpArgs false
namespace Go.Proofs.YtlcepboedifniaaGreatDoor
open Go Go.RowKit Copyhold
set_option maxRecDepth 100000 in
set_option maxHeartbeats 4000000 in
theorem found_spec (d : Dsk) (r : Rng) (l : Lg) (okd : OkDk d) (hrd : Copyhold.Disk.Right d) (hk : d.kept.length ≤ 200) (okr : OkR r) (okl : OkL l) (mx : Int) (hmx : I64 mx) : FSpec Tryz.prog 29 [.agg [.sl 1 false (d.kept.map txA), .sl 2 false (d.w.map putA), aB d.off], .agg [aI r.from_, aI r.many], .agg [aI l.at_, aI l.used, .val (.int .u64 l.first), aI l.many], aI mx] (.tup [.agg (lgA (lgW l (toldW d r l mx))), .sl 1 false ((toldW d r l mx).map txA)]) := by
  exact spec_vd Tryz.func29 (let R : AV := .tup [.agg (lgA (lgW l (toldW d r l mx))), .sl 1 false ((toldW d r l mx).map txA)];
 .new fun b1 => .new fun b2 => .new fun b3 => .new fun b4 => .new fun b5 => .r 1 <| .new fun b6 => .u 5 [b3, b3] <|
 .new fun b7 => .u 1 [b7] <|
 .rowNilB 100 10 0 9 1 <| .lent 4 <| .u 4 [b1, b2, b3] <|
 .lop (lnR Tryz.prog [(11, .box b7 30 [aI l.at_, aI 0, .val (.int .u64 l.first), aI 0]), (7, .box b4 3 [aI mx]), (10, .box b6 22 [.rw 100 (.slice none 0 0) 0]), (100, .row (.slice none 0 0) 9 1 ([]))]) ((42, [.agg [.sl 1 false (d.kept.map txA), .sl 2 false (d.w.map putA), aB d.off], .agg [aI r.from_, aI r.many], .agg [aI l.at_, aI l.used, .val (.int .u64 l.first), aI l.many], .clo 43 [.ptr 11 b7 0, .ptr 7 b4 0, .ptr 10 b6 0]], some 21), [(11, .box b7 30 [aI l.at_, aI 0, .val (.int .u64 l.first), aI 0]), (7, .box b4 3 [aI mx]), (10, .box b6 22 [.rw 100 (.slice none 0 0) 0]), (100, .row (.slice none 0 0) 9 1 ([]))]) (fun (V1 : Value) σ => setBsL (σ.put (some 21) (.tup [])) [(11, .box b7 30 [aI ((lgW l (toldW d r l mx)).at_), aI ((lgW l (toldW d r l mx)).used), .val (.int .u64 ((lgW l (toldW d r l mx)).first)), aI ((lgW l (toldW d r l mx)).many)]), (7, .box b4 3 [aI mx]), (10, .box b6 22 [.rw 100 V1 ((toldW d r l mx).length)]), (100, .row V1 9 1 ((toldW d r l mx).map txA))]) (rule_lentN (args' := [.agg [.sl 1 false (d.kept.map txA), .sl 2 false (d.w.map putA), aB d.off], .agg [aI r.from_, aI r.many], .agg [aI l.at_, aI l.used, .val (.int .u64 l.first), aI l.many], .clo 43 [.ptr 11 b7 0, .ptr 7 b4 0, .ptr 10 b6 0]]) (ys' := fun V1 => [(11, .box b7 30 [aI ((lgW l (toldW d r l mx)).at_), aI ((lgW l (toldW d r l mx)).used), .val (.int .u64 ((lgW l (toldW d r l mx)).first)), aI ((lgW l (toldW d r l mx)).many)]), (7, .box b4 3 [aI mx]), (10, .box b6 22 [.rw 100 V1 ((toldW d r l mx).length)]), (100, .row V1 9 1 ((toldW d r l mx).map txA))]) ⟨Sub.refl _, Sub.refl _, Sub.refl _, Sub.refl _, trivial⟩ (walk_spec b7 b4 b6 (.slice none 0 0) d r l mx okd hrd hk okr okl hmx) (fun _ => rfl)) fun V1 =>
 let J1 : Jn (Unit) := ⟨fun j1 => ⟨[(8, .ptr 8 b5 0), (9, .rw 100 V1 ((toldW d r l mx).length))], [(8, .box b5 30 [aI ((lgW l (toldW d r l mx)).at_), aI ((lgW l (toldW d r l mx)).used), .val (.int .u64 ((lgW l (toldW d r l mx)).first)), aI ((lgW l (toldW d r l mx)).many)]), (100, .row V1 9 1 ((toldW d r l mx).map txA))]⟩, fun _ => True⟩
 .cut J1 (.pick [0] <| .u 1 [b7] <|
 .fork <| .alt (.u 1 [b6] <|
 .pick [2, 3] <| .u 2 [b5] <|
 .jo J1 () [] [] ⟨Sub.refl _, Sub.refl _, trivial⟩ bb2)
 <| .u 1 [b5] <|
 .pick [1, 3] <| .u 2 [b6] <|
 .jo J1 () [] [] ⟨Sub.refl _, Sub.refl _, trivial⟩ bb2)
 <| fun _ _ => .frz 100 [8, 9] [8] [V1 = V1, (toldW d r l mx).length = ((toldW d r l mx).map txA).length] ⟨rfl, (by first | rfl | (simp; done) | (simp; omega)), trivial⟩ <|
 .fi R [b5])
end Go.Proofs.YtlcepboedifniaaGreatDoor

set_option linter.unusedVariables false
set_option linter.unusedSimpArgs false
namespace Go.Proofs.YtlcepboedifniaaGreatDoor
open Go Go.RowKit Copyhold Copyhold.Disk
def cutN (s : Txt) : Nat := (s.length - 1) / 64
def cutK (s : Txt) (k : Nat) : List Txt := (List.range k).map fun j => (s.drop (64 * j)).take 64
def cutF (s : Txt) : List Txt := cutK s (cutN s) ++ [s.drop (64 * cutN s)]
theorem cutK_succ (s : Txt) (k : Nat) : cutK s (k + 1) = cutK s k ++ [(s.drop (64 * k)).take 64] := by simp [cutK, List.range_succ]
theorem cutK_len (s : Txt) (k : Nat) : (cutK s k).length = k := by simp [cutK]
theorem cutF_len (s : Txt) : (cutF s).length = cutN s + 1 := by simp [cutF, cutK_len]
theorem cutF_small (s : Txt) : ∀ x ∈ cutF s, x.length ≤ 64 := by
  intro x hx
  simp only [cutF, cutK, List.mem_append, List.mem_map, List.mem_singleton, List.mem_range] at hx
  rcases hx with ⟨j, hj, rfl⟩ | rfl
  · exact List.length_take_le _ _
  · rw [List.length_drop]
    unfold cutN
    omega
set_option maxRecDepth 100000 in
set_option maxHeartbeats 4000000 in
theorem cut_spec (s : Txt) (hs : s.length ≤ 1000000) : FSpec Tryz.prog 38 [aS s] (.sl 1 false ((cutF s).map txA)) := by
  exact spec_vd Tryz.func38 (
 .r 1 <| .r 1 <| .rowNil 3 3 9 1 <| let L1 : Lp (Nat × Value) := ⟨fun a1 => ⟨[(0, aS (s.drop (64 * a1.1))), (3, .rw 3 a1.2 ((cutK s a1.1).length))], [(3, .row a1.2 9 1 ((cutK s a1.1).map txA))]⟩, fun a1 => cutN s - a1.1, fun a1 => a1.1 ≤ cutN s⟩
 .lp L1 (0, .slice none 0 0) (show 0 ≤ cutN s from Nat.zero_le _) [(0, aS s), (3, .rw 3 (.slice none 0 0) 0)] [(3, .row (.slice none 0 0) 9 1 ([]))] ⟨Sub.refl _, Sub.of_eq (congrArg (AV.rw 3 (.slice none 0 0)) (by simp [cutK_len])), trivial⟩ ⟨⟨_, rfl, SubB.of_eq (by simp [cutK])⟩, trivial⟩ fun a1 ha1 =>
 (fun (k : Nat) (V : Value) (hH1 : k ≤ cutN s) => have hd := List.length_drop (i := 64 * k) (l := s); have hN : cutN s = (s.length - 1) / 64 := rfl; have hcl := cutK_len s k; .r 3 <| .bd 6 ((((s.drop (64 * k))).length : Int) > 64) (fun p1 => .r 2 <| .slcS (s.drop (64 * k)) none (some 64) 0 64 (.inl ⟨rfl, rfl⟩) (.inr rfl) (by first | omega | (simp; done) | (simp; omega)) (by first | omega | (simp; done) | (simp; omega)) <|
 .r 1 <| .app 16 V ((cutK s k).map txA) ([[aS (((s.drop (64 * k)).take 64).drop 0)]]) (by simp only [List.length_map, List.length_cons, List.length_nil, cutK_len, List.length_append]; omega) (by simp only [List.length_map, List.length_cons, List.length_nil, cutK_len, List.length_append]; omega) fun V1 =>
 .r 1 <| .r 1 <| .slcS (s.drop (64 * k)) (some 64) none 64 ((s.drop (64 * k)).length) (.inr rfl) (.inl ⟨rfl, rfl⟩) (by first | omega | (simp; done) | (simp; omega)) (by first | omega | (simp; done) | (simp; omega)) <|
 .r 1 <| .bk L1 (k, V) ((k + 1), V1) (show (k + 1) ≤ cutN s from (by show _ ≤ _; omega)) (show cutN s - (k + 1) < cutN s - k from (by omega)) [(0, aS (((s.drop (64 * k)).take ((s.drop (64 * k)).length)).drop 64)), (3, .rw 3 V1 (((cutK s k).map txA).length + ([[aS (((s.drop (64 * k)).take 64).drop 0)]] : List (List AV)).length))] [(3, .row V1 9 1 (((cutK s k).map txA) ++ ([[aS (((s.drop (64 * k)).take 64).drop 0)]])))] ⟨Sub.of_eq (congrArg aS (by show _ = List.drop (64 * (k + 1)) s; rw [List.take_length, List.drop_drop]; exact congrArg (fun m => List.drop m s) (by omega))), Sub.of_eq (congrArg (AV.rw 3 V1) (by simp [cutK_len])), trivial⟩ ⟨⟨_, rfl, SubB.of_eq (by rw [cutK_succ]; simp [txA])⟩, trivial⟩)
 <| fun p1 => .r 3 <| .app 16 V ((cutK s k).map txA) ([[aS (s.drop (64 * k))]]) (by simp only [List.length_map, List.length_cons, List.length_nil, cutK_len, List.length_append]; omega) (by simp only [List.length_map, List.length_cons, List.length_nil, cutK_len, List.length_append]; omega) fun V2 =>
 .r 1 <| .frz 3 [2] [] [V2 = V2, ((cutK s k).map txA).length + ([[aS (s.drop (64 * k))]] : List (List AV)).length = (((cutK s k).map txA) ++ ([[aS (s.drop (64 * k))]])).length] ⟨rfl, (by first | rfl | (simp; done) | (simp; omega)), trivial⟩ <|
 .f (.sl 1 false ((cutF s).map txA)) [] (.sl 1 false (((cutK s k).map txA) ++ ([[aS (s.drop (64 * k))]]))) (by
    have hkN : cutN s = k := by omega
    subst hkN
    first | exact Sub.of_eq (by simp [cutF, txA]) | exact (Sub.of_eq (by simp [cutF, txA])).trans (Sub.loose _ _ _))) a1.1 a1.2 ha1)
def layK (d : Dsk) (r : Rng) (a : Int) (ps : List Txt) : Nat → Dsk
  | 0 => d
  | k + 1 => dputW (layK d r a ps k) (r.from_ + roundF r (a + (k : Int))) (ps.getD k [])
theorem layK_facts (d : Dsk) (r : Rng) (a : Int) (ps : List Txt) (ho : d.off = false) : ∀ k, (layK d r a ps k).kept = d.kept ∧ (layK d r a ps k).w.length = d.w.length + k ∧ (layK d r a ps k).off = false
  | 0 => ⟨rfl, rfl, ho⟩
  | k + 1 => by
    have ih := layK_facts d r a ps ho k
    refine ⟨ih.1, ?_, rfl⟩
    show (_ ++ [_]).length = _
    rw [List.length_append, ih.2.1]
    rfl
theorem layK_step {d : Dsk} {r : Rng} {a : Int} {ps : List Txt} {k : Nat} {x : Txt} (h : ps[k]? = some x) : dputW (layK d r a ps k) (r.from_ + roundF r (a + (k : Int))) x = layK d r a ps (k + 1) := by
  show _ = dputW _ _ (ps.getD k [])
  rw [List.getD_eq_getElem?_getD, h]
  rfl
theorem round_in {n : Nat} {r : Rng} (h : ringP n r) (a : Int) : 0 ≤ r.from_ + roundF r a ∧ r.from_ + roundF r a < n := by
  have h3 : 0 ≤ r.from_ ∧ 1 ≤ r.many ∧ r.from_ ≤ n ∧ r.many ≤ n - r.from_ := h
  have h4 := Int.emod_nonneg a (b := r.many) (by omega)
  have h5 := Int.emod_lt_of_pos a (b := r.many) (by omega)
  unfold roundF
  rw [if_neg (by omega)]
  omega
set_option maxRecDepth 100000 in
set_option maxHeartbeats 4000000 in
theorem lay_spec (d : Dsk) (r : Rng) (a : Int) (ps : List Txt) (ho : d.off = false) (okr : OkR r) (hk : d.kept.length ≤ 1000000) (hw : d.w.length ≤ 900000) (hrg : ringP d.kept.length r) (ha : 0 ≤ a ∧ a ≤ 1000000) (hn : ps.length ≤ 1000) (hps : ∀ x ∈ ps, x.length ≤ 64) : FSpec Tryz.prog 37 [.agg [.sl 1 false (d.kept.map txA), .sl 2 false (d.w.map putA), aB d.off], .agg [aI r.from_, aI r.many], aI a, .sl 1 false (ps.map txA)] (.tup [.agg (dskA (layK d r a ps ps.length)), aI 0]) := by
  have hr3 : 0 ≤ r.from_ ∧ 1 ≤ r.many ∧ r.from_ ≤ d.kept.length ∧ r.many ≤ d.kept.length - r.from_ := hrg
  exact spec_vd Tryz.func37 (
 .new fun b1 => .new fun b2 => .new fun b3 => .r 1 <| .r 2 <| .lm 14 ps txA <| .r 1 <| let L1 : Lp (Nat) := ⟨fun a1 => ⟨[(2, aI a), (4, .ptr 4 b1 0), (5, .ptr 5 b2 0), (8, .ptr 8 b3 0), (13, .sl 1 false (ps.map txA)), (14, aI (ps.length : Int)), (15, aI (a1 : Int))], [(4, .box b1 25 [.sl 1 false ((layK d r a ps a1).kept.map txA), .sl 2 false ((layK d r a ps a1).w.map putA), aB ((layK d r a ps a1).off)]), (5, .box b2 27 [aI r.from_, aI r.many]), (8, .box b3 25 [aN, aN, aB false])]⟩, fun a1 => ps.length - a1, fun a1 => a1 ≤ ps.length⟩
 .lp L1 0 (show 0 ≤ ps.length from Nat.zero_le _) [(15, aI 0)] [(4, .box b1 25 [.sl 1 false (d.kept.map txA), .sl 2 false (d.w.map putA), aB d.off])] ⟨Sub.refl _, Sub.refl _, Sub.refl _, Sub.refl _, Sub.refl _, Sub.refl _, sO, trivial⟩ ⟨⟨_, rfl, SubB.refl _⟩, sB, sB, trivial⟩ fun a1 ha1 =>
 (fun (k : Nat) (hH1 : k ≤ ps.length) => have hlf := layK_facts d r a ps ho k; have hri := round_in hrg (a + (k : Int)); .r 1 <| .bd 16 ((k : Int) < (ps.length : Int)) (fun p1 => .r 1 <| .idxM ps txA k (m := (k : Int)) rfl (by omega) fun x1 hx1 =>
 .r 3 <| .r 1 <| .ord [0, 1, 2, 3, 4, 5, 6, 9, 7, 8, 10, 11, 12, 13, 14, 15] <| .run 8 [b1 = b1, b2 = b2, b2 = b2, rng .i64 (a + (k : Int))] ⟨rfl, rfl, rfl, rng64 (by omega) (by omega), trivial⟩ <|
 .call (round_spec r (a + (k : Int)) (by omega) (by omega)) <|
 .run 1 [rng .i64 (r.from_ + (roundF r (a + (k : Int))))] ⟨rng64 (by omega) (by omega), trivial⟩ <|
 .call (write_spec (layK d r a ps k) (r.from_ + roundF r (a + (k : Int))) x1 hlf.2.2 (by rw [hlf.1]; exact round_in hrg _) (hps x1 (List.mem_of_getElem? hx1)) (by omega)) <|
 .u 5 [b1] <|
 .r 2 <| .bn 35 0 0 (fun p2 => .u 4 [b1, b3] <|
 .f (.tup [.agg (dskA (layK d r a ps ps.length)), aI 0]) [b3] (.tup [.agg [.sl 1 false ((dputW (layK d r a ps k) (r.from_ + roundF r (a + (k : Int))) x1).kept.map txA), .sl 2 false ((dputW (layK d r a ps k) (r.from_ + roundF r (a + (k : Int))) x1).w.map putA), aB ((dputW (layK d r a ps k) (r.from_ + roundF r (a + (k : Int))) x1).off)], aI 0]) (by first | exact absurd rfl p2 | exact Sub.of_eq (by rw [show ps.length = k from by omega]; rfl)))
 <| fun p2 => .run 2 [rng .i64 ((k : Int) + 1)] ⟨rng64 (by omega) (by omega), trivial⟩ <|
 .bk L1 k (k + 1) (show (k + 1) ≤ ps.length from (by show _ ≤ _; omega)) (show ps.length - (k + 1) < ps.length - k from (by omega)) [(15, aI ((k : Int) + 1))] [(4, .box b1 25 [.sl 1 false ((dputW (layK d r a ps k) (r.from_ + roundF r (a + (k : Int))) x1).kept.map txA), .sl 2 false ((dputW (layK d r a ps k) (r.from_ + roundF r (a + (k : Int))) x1).w.map putA), aB ((dputW (layK d r a ps k) (r.from_ + roundF r (a + (k : Int))) x1).off)])] ⟨Sub.refl _, Sub.refl _, Sub.refl _, Sub.refl _, Sub.refl _, Sub.refl _, sO, trivial⟩ ⟨⟨_, rfl, SubB.of_eq (congrArg (fun b : Dsk => Bx.box b1 25 (dskA b)) (layK_step hx1))⟩, sB, sB, trivial⟩)
 <| fun p1 => .u 3 [b1, b3] <|
 .f (.tup [.agg (dskA (layK d r a ps ps.length)), aI 0]) [b3] (.tup [.agg [.sl 1 false ((layK d r a ps k).kept.map txA), .sl 2 false ((layK d r a ps k).w.map putA), aB ((layK d r a ps k).off)], aI 0]) (by first | exact absurd rfl p2 | exact Sub.of_eq (by rw [show ps.length = k from by omega]; rfl))) a1 ha1)
end Go.Proofs.YtlcepboedifniaaGreatDoor

set_option linter.unusedVariables false
set_option linter.unusedSimpArgs false
namespace Go.Proofs.YtlcepboedifniaaGreatDoor
open Go Go.RowKit Copyhold
def lg0 (r : Rng) (a n : Int) : Lg := ⟨a, r.many, n, 0⟩
open Classical in
noncomputable def scanD (d : Dsk) (r : Rng) (a n : Int) : Lg × List Txt × Int :=
  if d.off = true then (⟨0, 0, 0, 0⟩, [], 19) else if ringP d.kept.length r ∧ placeP r a then (lgW (lg0 r a n) (toldW d r (lg0 r a n) r.many), toldW d r (lg0 r a n) r.many, 0) else (⟨0, 0, 0, 0⟩, [], 1)
noncomputable def textsD (d : Dsk) (r : Rng) (l : Lg) : List Txt × Int := if d.off = true then ([], 19) else (toldW d r l l.many, 0)
noncomputable def dropD (d : Dsk) (r : Rng) (l : Lg) (m : Int) : Lg × Int :=
  if m < 0 ∨ l.many < m then (l, 1) else (⟨roundF r (l.at_ + (sumN (toldW d r l m) : Int)), l.used - (sumN (toldW d r l m) : Int), (l.first + m) % 18446744073709551616, l.many - m⟩, 0)
theorem told_sum {d : Dsk} {r : Rng} {l : Lg} (mx : Int) (hr : Copyhold.Disk.Right d) (hk : d.kept.length ≤ 200) : sumN (toldW d r l mx) ≤ 200 := by
  unfold toldW
  split
  · rename_i h
    have h1 := recs_sum (segI d r l).length (segI d r l) l.first
    have h2 := sumN_take (recsG (segI d r l) l.first) mx.toNat
    have h3 := segI_len hr h
    have h4 := goodW_bd h
    change 64 * sumN (recsG (segI d r l) l.first) ≤ _ at h1
    omega
  · simp [sumN]
def SmL (l : Lg) : Prop := (0 ≤ l.at_ ∧ l.at_ ≤ 100000) ∧ (-100000 ≤ l.used ∧ l.used ≤ 100000) ∧ 0 ≤ l.many ∧ l.many ≤ 100000
set_option maxRecDepth 100000 in
set_option maxHeartbeats 4000000 in
theorem scan_spec (d : Dsk) (r : Rng) (okd : OkDk d) (hrd : Copyhold.Disk.Right d) (hk : d.kept.length ≤ 200) (okr : OkR r) (a n : Int) (ha : I64 a) (hn : U64 n) : FSpec Tryz.prog 9 [.agg [.sl 1 false (d.kept.map txA), .sl 2 false (d.w.map putA), aB d.off], .agg [aI r.from_, aI r.many], aI a, .val (.int .u64 n)] (.tup [.agg (lgA (scanD d r a n).1), .sl 1 false ((scanD d r a n).2.1.map txA), aI (scanD d r a n).2.2]) := by
  exact spec_vd Tryz.func9 (
 .new fun b1 => .new fun b2 => .new fun b3 => .r 2 <| .u 2 [b1] <|
 .br 14 (d.off) (fun q1 => have p1 := booT q1; .u 4 [b3] <|
 .f (.tup [.agg (lgA (scanD d r a n).1), .sl 1 false ((scanD d r a n).2.1.map txA), aI (scanD d r a n).2.2]) [b3] (.tup [.agg [aI 0, aI 0, .val (.int .u64 0), aI 0], aN, aI 19]) (by
    rw [show scanD d r a n = _ from if_pos q1]
    exact Sub.tups ⟨Sub.refl _, Sub.nil _ _, Sub.refl _, trivial⟩))
 <| fun q1 => have p1 := booF q1; .u 2 [b1, b2] <|
 .call (ringed_spec d r okr (by omega)) <|
 .r 2 <| .br 20 (!(dP (ringP d.kept.length r))) (fun q2 => have q2 := notT q2; have p2 := booF q2; .r 5 <| .u 4 [b3] <|
 .f (.tup [.agg (lgA (scanD d r a n).1), .sl 1 false ((scanD d r a n).2.1.map txA), aI (scanD d r a n).2.2]) [b3] (.tup [.agg [aI 0, aI 0, .val (.int .u64 0), aI 0], aN, aI 1]) (by
    rw [show scanD d r a n = _ from (if_neg (by rw [q1]; decide)).trans (if_neg (fun h => dP_false.1 q2 h.1))]
    exact Sub.tups ⟨Sub.refl _, Sub.nil _ _, Sub.refl _, trivial⟩))
 <| fun q2 => have q2 := notF q2; have p2 := booT q2; .u 2 [b2] <|
 .call (placed_spec r a) <|
 .r 2 <| .br 25 (!(dP (placeP r a))) (fun q3 => have q3 := notT q3; have p3 := booF q3; .u 4 [b3] <|
 .f (.tup [.agg (lgA (scanD d r a n).1), .sl 1 false ((scanD d r a n).2.1.map txA), aI (scanD d r a n).2.2]) [b3] (.tup [.agg [aI 0, aI 0, .val (.int .u64 0), aI 0], aN, aI 1]) (by
    rw [show scanD d r a n = _ from (if_neg (by rw [q1]; decide)).trans (if_neg (fun h => dP_false.1 q3 h.2))]
    exact Sub.tups ⟨Sub.refl _, Sub.nil _ _, Sub.refl _, trivial⟩))
 <| fun q3 => have q3 := notF q3; have p3 := booT q3; .u 9 [b1, b2, b2, b2] <|
 .call (found_spec d r (lg0 r a n) okd hrd hk okr ⟨ha, okr.m, hn, (show I64 0 from ⟨by decide, by decide⟩)⟩ r.many okr.m) <|
 .r 3 <| .new fun b4 => .u 2 [b4] <|
 .u 5 [b4, b3] <|
 .f (.tup [.agg (lgA (scanD d r a n).1), .sl 1 false ((scanD d r a n).2.1.map txA), aI (scanD d r a n).2.2]) [b3] (.tup [.agg [aI ((lgW (lg0 r a n) (toldW d r (lg0 r a n) r.many)).at_), aI ((lgW (lg0 r a n) (toldW d r (lg0 r a n) r.many)).used), .val (.int .u64 ((lgW (lg0 r a n) (toldW d r (lg0 r a n) r.many)).first)), aI ((lgW (lg0 r a n) (toldW d r (lg0 r a n) r.many)).many)], .sl 1 false ((toldW d r (lg0 r a n) r.many).map txA), aI 0]) (by
    rw [show scanD d r a n = _ from (if_neg (by rw [q1]; decide)).trans (if_pos ⟨dP_true.1 q2, dP_true.1 q3⟩)]
    exact Sub.tups ⟨Sub.refl _, Sub.refl _, Sub.refl _, trivial⟩))
set_option maxRecDepth 100000 in
set_option maxHeartbeats 4000000 in
theorem texts_spec (d : Dsk) (r : Rng) (l : Lg) (okd : OkDk d) (hrd : Copyhold.Disk.Right d) (hk : d.kept.length ≤ 200) (okr : OkR r) (okl : OkL l) : FSpec Tryz.prog 20 [.agg [.sl 1 false (d.kept.map txA), .sl 2 false (d.w.map putA), aB d.off], .agg [aI r.from_, aI r.many], .agg [aI l.at_, aI l.used, .val (.int .u64 l.first), aI l.many]] (.tup [.sl 1 false ((textsD d r l).1.map txA), aI (textsD d r l).2]) := by
  exact spec_vd Tryz.func20 (
 .new fun b1 => .new fun b2 => .new fun b3 => .r 2 <| .u 2 [b1] <|
 .br 11 (d.off) (fun q1 => have p1 := booT q1; .r 2 <| .f (.tup [.sl 1 false ((textsD d r l).1.map txA), aI (textsD d r l).2]) [] (.tup [aN, aI 19]) (by
    rw [show textsD d r l = _ from if_pos q1]
    exact Sub.tups ⟨Sub.nil _ _, Sub.refl _, trivial⟩))
 <| fun q1 => have p1 := booF q1; .u 5 [b1, b2, b3, b3] <|
 .call (found_spec d r l okd hrd hk okr okl l.many okl.m) <|
 .r 3 <| .new fun b4 => .u 2 [b4] <|
 .r 3 <| .f (.tup [.sl 1 false ((textsD d r l).1.map txA), aI (textsD d r l).2]) [] (.tup [.sl 1 false ((toldW d r l l.many).map txA), aI 0]) (by
    rw [show textsD d r l = _ from if_neg (by rw [q1]; decide)]
    exact Sub.tups ⟨Sub.refl _, Sub.refl _, trivial⟩))
set_option maxRecDepth 100000 in
set_option maxHeartbeats 4000000 in
theorem drop_spec (d : Dsk) (r : Rng) (l : Lg) (okd : OkDk d) (hrd : Copyhold.Disk.Right d) (hk : d.kept.length ≤ 200) (okr : OkR r) (okl : OkL l) (m : Int) (hm : I64 m) (hsm : SmL l) : FSpec Tryz.prog 22 [.agg [.sl 1 false (d.kept.map txA), .sl 2 false (d.w.map putA), aB d.off], .agg [aI r.from_, aI r.many], .agg [aI l.at_, aI l.used, .val (.int .u64 l.first), aI l.many], aI m] (.tup [.agg (lgA (dropD d r l m).1), aI (dropD d r l m).2]) := by
  obtain ⟨⟨s1, s2⟩, ⟨s3, s4⟩, s5, s6⟩ := hsm
  have m1 := hm.1
  have m2 := hm.2
  have hts := told_sum (l := l) (r := r) m hrd hk
  have hus : (lgW l (toldW d r l m)).used = (sumN (toldW d r l m) : Int) := rfl
  exact spec_vd Tryz.func22 (
 .new fun b1 => .new fun b2 => .new fun b3 => .new fun b4 => .r 1 <| .r 3 <| .bd 14 (m < 0) (fun p1 => .r 5 <| .u 3 [b3, b4] <|
 .f (.tup [.agg (lgA (dropD d r l m).1), aI (dropD d r l m).2]) [b4] (.tup [.agg [aI l.at_, aI l.used, .val (.int .u64 l.first), aI l.many], aI 1]) (by
    rw [show dropD d r l m = _ from if_pos (by omega)]
    exact Sub.refl _))
 <| fun p1 => .u 5 [b3] <|
 .bd 19 (m > l.many) (fun p2 => .u 3 [b3, b4] <|
 .f (.tup [.agg (lgA (dropD d r l m).1), aI (dropD d r l m).2]) [b4] (.tup [.agg [aI l.at_, aI l.used, .val (.int .u64 l.first), aI l.many], aI 1]) (by
    rw [show dropD d r l m = _ from if_pos (by omega)]
    exact Sub.refl _))
 <| fun p2 => .u 4 [b1, b2, b3] <|
 .call (found_spec d r l okd hrd hk okr okl m hm) <|
 .r 3 <| .new fun b5 => .u 2 [b5] <|
 .ord [0, 1, 2, 3, 4, 5, 7, 8, 9, 10, 11, 12, 13, 14, 15, 16, 17, 18, 19, 20, 6, 21, 22, 23] <| .run 14 [b2 = b2, b3 = b3, b5 = b5, rng .i64 (l.at_ + ((lgW l (toldW d r l m)).used)), b3 = b3, b5 = b5, rng .i64 (l.used - ((lgW l (toldW d r l m)).used)), b3 = b3] ⟨rfl, rfl, rfl, rng64 (by omega) (by omega), rfl, rfl, rng64 (by omega) (by omega), rfl, trivial⟩ <|
 .op (cvR) (3, 28, .int .i64 m, some 44) (fun (_ : Unit) σ => σ.put (some 44) (.val (.int .u64 m))) (rule_cv (conv_int (by kernel_rfl) (by kernel_rfl) (rngu (by omega) (by omega)))) fun _ =>
 .binV .add 28 (addW (a := l.first) (b := m)) <|
 .run 4 [b3 = b3, rng .i64 (l.many - m)] ⟨rfl, rng64 (by omega) (by omega), trivial⟩ <|
 .call (round_spec r (l.at_ + (sumN (toldW d r l m) : Int)) (by omega) (by omega)) <|
 .u 3 [b4] <|
 .f (.tup [.agg (lgA (dropD d r l m).1), aI (dropD d r l m).2]) [b4] (.tup [.agg [aI (roundF r (l.at_ + (sumN (toldW d r l m) : Int))), aI (l.used - ((lgW l (toldW d r l m)).used)), .val (.int .u64 ((l.first + m) % 18446744073709551616)), aI (l.many - m)], aI 0]) (by
    rw [show dropD d r l m = _ from if_neg (by omega)]
    exact Sub.refl _))
end Go.Proofs.YtlcepboedifniaaGreatDoor

set_option linter.unusedVariables false
set_option linter.unusedSimpArgs false
namespace Go.Proofs.YtlcepboedifniaaGreatDoor
open Go Go.RowKit Copyhold Copyhold.Disk
def nxtN (l : Lg) : Int := (l.first + l.many) % 18446744073709551616
def laidD (d : Dsk) (r : Rng) (l : Lg) (s : Txt) : Dsk := layK d r (l.at_ + l.used) (cutF (recB (nxtN l) s)) (cutF (recB (nxtN l) s)).length
def appD (d : Dsk) (r : Rng) (l : Lg) (s : Txt) : Dsk × Lg × Int :=
  if d.off = true then (d, l, 19) else if 4096 < s.length then (d, l, 5) else if r.many - (needB s : Int) < l.used then (d, l, 12) else (laidD d r l s, ⟨l.at_, l.used + (needB s : Int), l.first, l.many + 1⟩, 0)
set_option maxRecDepth 100000 in
set_option maxHeartbeats 4000000 in
theorem append_spec (d : Dsk) (r : Rng) (l : Lg) (s : Txt) (okr : OkR r) (okl : OkL l) (hk : d.kept.length ≤ 1000000) (hw : d.w.length ≤ 900000) (hrg : ringP d.kept.length r) (h0 : 0 ≤ l.at_ + l.used ∧ l.at_ + l.used ≤ 1000000) (hu : -100000 ≤ l.used ∧ l.used ≤ 100000) (hm : 0 ≤ l.many ∧ l.many ≤ 100000) (hs : s.length ≤ 1000000) : FSpec Tryz.prog 19 [.agg [.sl 1 false (d.kept.map txA), .sl 2 false (d.w.map putA), aB d.off], .agg [aI r.from_, aI r.many], .agg [aI l.at_, aI l.used, .val (.int .u64 l.first), aI l.many], aS s] (.tup [.agg (dskA (appD d r l s).1), .agg (lgA (appD d r l s).2.1), aI (appD d r l s).2.2]) := by
  have hr3 : 0 ≤ r.from_ ∧ 1 ≤ r.many ∧ r.from_ ≤ d.kept.length ∧ r.many ≤ d.kept.length - r.from_ := hrg
  have hrl := recB_len ((l.first + l.many) % 18446744073709551616) s
  have hrl0 := recB_len 0 s
  have htl := textB_len s (by omega)
  have hnb : needB s = ((recB 0 s).length + 63) / 64 := rfl
  have hof := okl.f.1
  have hof2 := okl.f.2
  exact spec_vd Tryz.func19 (
 .new fun b1 => .new fun b2 => .new fun b3 => .new fun b4 => .new fun b5 => .r 1 <| .u 2 [b1] <|
 .br 16 (d.off) (fun q1 => have p1 := booT q1; let J1 : Jn (Unit) := ⟨fun j1 => ⟨[(3, aS s), (4, .ptr 4 b1 0), (5, .ptr 5 b2 0), (6, .ptr 6 b3 0), (8, .ptr 8 b4 0), (9, .ptr 9 b5 0), (10, aI 19)], [(4, .box b1 25 [.sl 1 false (d.kept.map txA), .sl 2 false (d.w.map putA), aB d.off]), (5, .box b2 27 [aI r.from_, aI r.many]), (6, .box b3 30 [aI l.at_, aI l.used, .val (.int .u64 l.first), aI l.many]), (8, .box b4 25 [.sl 1 false (d.kept.map txA), .sl 2 false (d.w.map putA), aB d.off]), (9, .box b5 30 [aI l.at_, aI l.used, .val (.int .u64 l.first), aI l.many])]⟩, fun _ => True⟩
 .cut J1 (.pick [0] <| .u 1 [b1] <|
 .fork <| .alt (.u 1 [b3] <|
 .pick [2, 3, 4] <| .u 3 [b4, b5] <|
 .jo J1 () [] [] ⟨Sub.refl _, Sub.refl _, Sub.refl _, Sub.refl _, Sub.refl _, Sub.refl _, Sub.refl _, trivial⟩ bb5)
 <| .u 1 [b4] <|
 .pick [1, 3, 4] <| .u 3 [b3, b5] <|
 .jo J1 () [] [] ⟨Sub.refl _, Sub.refl _, Sub.refl _, Sub.refl _, Sub.refl _, Sub.refl _, Sub.refl _, trivial⟩ bb5)
 <| fun _ _ => .f (.tup [.agg (dskA (appD d r l s).1), .agg (lgA (appD d r l s).2.1), aI (appD d r l s).2.2]) [b4, b5] (.tup [.agg [.sl 1 false (d.kept.map txA), .sl 2 false (d.w.map putA), aB d.off], .agg [aI l.at_, aI l.used, .val (.int .u64 l.first), aI l.many], aI 19]) (by first | contradiction | exact Sub.of_eq (by unfold appD; (repeat first | rw [if_pos (by first | assumption | omega)] | rw [if_neg (by first | omega | simp_all)]); rfl)))
 <| fun q1 => have p1 := booF q1; .r 3 <| .br 21 (decide (((s).length : Int) > 4096)) (fun q2 => have p2 := decT q2; let J2 : Jn (Unit) := ⟨fun j2 => ⟨[(3, aS s), (4, .ptr 4 b1 0), (5, .ptr 5 b2 0), (6, .ptr 6 b3 0), (8, .ptr 8 b4 0), (9, .ptr 9 b5 0), (10, aI 5)], [(4, .box b1 25 [.sl 1 false (d.kept.map txA), .sl 2 false (d.w.map putA), aB d.off]), (5, .box b2 27 [aI r.from_, aI r.many]), (6, .box b3 30 [aI l.at_, aI l.used, .val (.int .u64 l.first), aI l.many]), (8, .box b4 25 [.sl 1 false (d.kept.map txA), .sl 2 false (d.w.map putA), aB d.off]), (9, .box b5 30 [aI l.at_, aI l.used, .val (.int .u64 l.first), aI l.many])]⟩, fun _ => True⟩
 .cut J2 (.pick [0] <| .u 1 [b1] <|
 .fork <| .alt (.u 1 [b3] <|
 .pick [2, 3, 4] <| .u 3 [b4, b5] <|
 .jo J2 () [] [] ⟨Sub.refl _, Sub.refl _, Sub.refl _, Sub.refl _, Sub.refl _, Sub.refl _, Sub.refl _, trivial⟩ bb5)
 <| .u 1 [b4] <|
 .pick [1, 3, 4] <| .u 3 [b3, b5] <|
 .jo J2 () [] [] ⟨Sub.refl _, Sub.refl _, Sub.refl _, Sub.refl _, Sub.refl _, Sub.refl _, Sub.refl _, trivial⟩ bb5)
 <| fun _ _ => .f (.tup [.agg (dskA (appD d r l s).1), .agg (lgA (appD d r l s).2.1), aI (appD d r l s).2.2]) [b4, b5] (.tup [.agg [.sl 1 false (d.kept.map txA), .sl 2 false (d.w.map putA), aB d.off], .agg [aI l.at_, aI l.used, .val (.int .u64 l.first), aI l.many], aI 5]) (by first | contradiction | exact Sub.of_eq (by unfold appD; (repeat first | rw [if_pos (by first | assumption | omega)] | rw [if_neg (by first | omega | simp_all)]); rfl)))
 <| fun q2 => have p2 := decF q2; .r 1 <| .call (need_spec s (by omega)) <|
 .r 1 <| .run 7 [b3 = b3, b2 = b2, rng .i64 (r.many - (needB s : Int))] ⟨rfl, rfl, rng64 (by omega) (by omega), trivial⟩ <|
 .br 32 (decide (l.used > (r.many - (needB s : Int)))) (fun q3 => have p3 := decT q3; let J3 : Jn (Unit) := ⟨fun j3 => ⟨[(3, aS s), (4, .ptr 4 b1 0), (5, .ptr 5 b2 0), (6, .ptr 6 b3 0), (8, .ptr 8 b4 0), (9, .ptr 9 b5 0), (10, aI 12), (11, aI (needB s : Int))], [(4, .box b1 25 [.sl 1 false (d.kept.map txA), .sl 2 false (d.w.map putA), aB d.off]), (5, .box b2 27 [aI r.from_, aI r.many]), (6, .box b3 30 [aI l.at_, aI l.used, .val (.int .u64 l.first), aI l.many]), (8, .box b4 25 [.sl 1 false (d.kept.map txA), .sl 2 false (d.w.map putA), aB d.off]), (9, .box b5 30 [aI l.at_, aI l.used, .val (.int .u64 l.first), aI l.many])]⟩, fun _ => True⟩
 .cut J3 (.pick [0] <| .u 1 [b1] <|
 .fork <| .alt (.u 1 [b3] <|
 .pick [2, 3, 4] <| .u 3 [b4, b5] <|
 .jo J3 () [] [] ⟨Sub.refl _, Sub.refl _, Sub.refl _, Sub.refl _, Sub.refl _, Sub.refl _, Sub.refl _, Sub.refl _, trivial⟩ bb5)
 <| .u 1 [b4] <|
 .pick [1, 3, 4] <| .u 3 [b3, b5] <|
 .jo J3 () [] [] ⟨Sub.refl _, Sub.refl _, Sub.refl _, Sub.refl _, Sub.refl _, Sub.refl _, Sub.refl _, Sub.refl _, trivial⟩ bb5)
 <| fun _ _ => .f (.tup [.agg (dskA (appD d r l s).1), .agg (lgA (appD d r l s).2.1), aI (appD d r l s).2.2]) [b4, b5] (.tup [.agg [.sl 1 false (d.kept.map txA), .sl 2 false (d.w.map putA), aB d.off], .agg [aI l.at_, aI l.used, .val (.int .u64 l.first), aI l.many], aI 12]) (by first | contradiction | exact Sub.of_eq (by unfold appD; (repeat first | rw [if_pos (by first | assumption | omega)] | rw [if_neg (by first | omega | simp_all)]); rfl)))
 <| fun q3 => have p3 := decF q3; .u 4 [b3, b3] <|
 .op (cvR) (3, 28, .int .i64 l.many, some 39) (fun (_ : Unit) σ => σ.put (some 39) (.val (.int .u64 l.many))) (rule_cv (conv_int (by kernel_rfl) (by kernel_rfl) (rngu (by omega) (by omega)))) fun _ =>
 .binV .add 28 (addW (a := l.first) (b := l.many)) <|
 .r 1 <| .call (record_spec ((l.first + l.many) % 18446744073709551616) s ⟨by omega, by omega⟩ (by omega)) <|
 .r 1 <| let J4 : Jn (Nat) := ⟨fun j4 => ⟨[(4, .ptr 4 b1 0), (6, .ptr 6 b3 0), (8, .ptr 8 b4 0), (9, .ptr 9 b5 0), (10, aI 0), (11, aI (needB s : Int)), (13, .ptr 13 j4 0), (14, aI 0)], [(4, .box b1 25 [.sl 1 false (d.kept.map txA), .sl 2 false (d.w.map putA), aB d.off]), (6, .box b3 30 [aI l.at_, aI l.used, .val (.int .u64 l.first), aI l.many]), (8, .box b4 25 [aN, aN, aB false]), (9, .box b5 30 [aI 0, aI 0, .val (.int .u64 0), aI 0]), (13, .box j4 25 [.sl 1 false ((laidD d r l s).kept.map txA), .sl 2 false ((laidD d r l s).w.map putA), aB ((laidD d r l s).off)])]⟩, fun _ => True⟩
 .cut J4 (.pick [0, 1, 2, 3, 4, 5, 6, 7] <| .run 8 [b1 = b1, b2 = b2, b3 = b3, b3 = b3, rng .i64 (l.at_ + l.used)] ⟨rfl, rfl, rfl, rfl, rng64 (by omega) (by omega), trivial⟩ <|
 .fork <| .alt (.call (cut_spec (recB ((l.first + l.many) % 18446744073709551616) s) (by omega)) <|
 .fork <| .alt (.call (lay_spec d r (l.at_ + l.used) (cutF (recB ((l.first + l.many) % 18446744073709551616) s)) q1 okr hk hw hrg h0 (by rw [cutF_len]; unfold cutN; omega) (cutF_small _)) <|
 .pick [10, 11, 12, 13, 14, 15] <| .r 3 <| .new fun b6 => .u 2 [b6] <|
 .jo J4 b6 [] [] ⟨Sub.refl _, Sub.refl _, Sub.refl _, Sub.refl _, Sub.refl _, Sub.refl _, Sub.refl _, Sub.refl _, trivial⟩ bb5)
 <| .new fun b7 => .pick [9, 10, 11, 12, 14, 15] <| .call (lay_spec d r (l.at_ + l.used) (cutF (recB ((l.first + l.many) % 18446744073709551616) s)) q1 okr hk hw hrg h0 (by rw [cutF_len]; unfold cutN; omega) (cutF_small _)) <|
 .u 5 [b7] <|
 .jo J4 b7 [] [] ⟨Sub.refl _, Sub.refl _, Sub.refl _, Sub.refl _, Sub.refl _, Sub.refl _, Sub.refl _, Sub.refl _, trivial⟩ bb5)
 <| .new fun b8 => .pick [8, 9, 10, 11, 12, 14, 15] <| .call (cut_spec (recB ((l.first + l.many) % 18446744073709551616) s) (by omega)) <|
 .call (lay_spec d r (l.at_ + l.used) (cutF (recB ((l.first + l.many) % 18446744073709551616) s)) q1 okr hk hw hrg h0 (by rw [cutF_len]; unfold cutN; omega) (cutF_small _)) <|
 .u 5 [b8] <|
 .jo J4 b8 [] [] ⟨Sub.refl _, Sub.refl _, Sub.refl _, Sub.refl _, Sub.refl _, Sub.refl _, Sub.refl _, Sub.refl _, trivial⟩ bb5)
 <| fun j4 _ => (fun (b9 : Nat) => .r 2 <| .br 57 (0 != 0) (fun q4 => have p4 := bneT q4; let J5 : Jn (Unit) := ⟨fun j5 => ⟨[(6, .ptr 6 b3 0), (8, .ptr 8 b4 0), (9, .ptr 9 b5 0), (10, aI 0), (11, aI (needB s : Int)), (13, .ptr 13 b9 0)], [(6, .box b3 30 [aI l.at_, aI l.used, .val (.int .u64 l.first), aI l.many]), (8, .box b4 25 [.sl 1 false (d.kept.map txA), .sl 2 false (d.w.map putA), aB d.off]), (9, .box b5 30 [aI l.at_, aI l.used, .val (.int .u64 l.first), aI l.many]), (13, .box b9 25 [.sl 1 false ((laidD d r l s).kept.map txA), .sl 2 false ((laidD d r l s).w.map putA), aB ((laidD d r l s).off)])]⟩, fun _ => True⟩
 .cut J5 (.pick [0, 2] <| .u 2 [b1] <|
 .fork <| .alt (.u 1 [b3] <|
 .pick [3, 4, 5] <| .u 3 [b4, b5] <|
 .jo J5 () [] [] ⟨Sub.refl _, Sub.refl _, Sub.refl _, Sub.refl _, Sub.refl _, Sub.refl _, trivial⟩ bb4)
 <| .u 1 [b4] <|
 .pick [1, 4, 5] <| .u 3 [b3, b5] <|
 .jo J5 () [] [] ⟨Sub.refl _, Sub.refl _, Sub.refl _, Sub.refl _, Sub.refl _, Sub.refl _, trivial⟩ bb4)
 <| fun _ _ => .f (.tup [.agg (dskA (appD d r l s).1), .agg (lgA (appD d r l s).2.1), aI (appD d r l s).2.2]) [b4, b5] (.tup [.agg [.sl 1 false (d.kept.map txA), .sl 2 false (d.w.map putA), aB d.off], .agg [aI l.at_, aI l.used, .val (.int .u64 l.first), aI l.many], aI 0]) (by first | contradiction | exact Sub.of_eq (by unfold appD; (repeat first | rw [if_pos (by first | assumption | omega)] | rw [if_neg (by first | omega | simp_all)]); rfl)))
 <| fun q4 => have p4 := bneF q4; .run 6 [b3 = b3, rng .i64 (l.used + (needB s : Int)), b3 = b3] ⟨rfl, rng64 (by omega) (by omega), rfl, trivial⟩ <|
 .run 5 [b3 = b3, rng .i64 (l.many + 1), b3 = b3] ⟨rfl, rng64 (by omega) (by omega), rfl, trivial⟩ <|
 let J6 : Jn (Unit) := ⟨fun j6 => ⟨[(8, .ptr 8 b4 0), (9, .ptr 9 b5 0), (10, aI 0)], [(8, .box b4 25 [.sl 1 false ((laidD d r l s).kept.map txA), .sl 2 false ((laidD d r l s).w.map putA), aB ((laidD d r l s).off)]), (9, .box b5 30 [aI l.at_, aI (l.used + (needB s : Int)), .val (.int .u64 l.first), aI (l.many + 1)])]⟩, fun _ => True⟩
 .cut J6 (.pick [0] <| .u 1 [b9] <|
 .fork <| .alt (.u 1 [b3] <|
 .pick [2, 3, 4] <| .u 3 [b4, b5] <|
 .jo J6 () [] [] ⟨Sub.refl _, Sub.refl _, Sub.refl _, trivial⟩ bb2)
 <| .u 1 [b4] <|
 .pick [1, 3, 4] <| .u 3 [b3, b5] <|
 .jo J6 () [] [] ⟨Sub.refl _, Sub.refl _, Sub.refl _, trivial⟩ bb2)
 <| fun _ _ => .f (.tup [.agg (dskA (appD d r l s).1), .agg (lgA (appD d r l s).2.1), aI (appD d r l s).2.2]) [b4, b5] (.tup [.agg [.sl 1 false ((laidD d r l s).kept.map txA), .sl 2 false ((laidD d r l s).w.map putA), aB ((laidD d r l s).off)], .agg [aI l.at_, aI (l.used + (needB s : Int)), .val (.int .u64 l.first), aI (l.many + 1)], aI 0]) (by first | contradiction | exact Sub.of_eq (by unfold appD; (repeat first | rw [if_pos (by first | assumption | omega)] | rw [if_neg (by first | omega | simp_all)]); rfl))) j4)
end Go.Proofs.YtlcepboedifniaaGreatDoor

set_option linter.unusedVariables false
set_option linter.unusedSimpArgs false
namespace Go.Proofs.YtlcepboedifniaaGreatDoor
open Go Go.RowKit Copyhold Copyhold.Disk
def padR (n : Int) (s : Txt) : Txt := recB n s ++ List.replicate (64 * needB s - (recB n s).length) 0
theorem recB_le (n : Int) (s : Txt) : (recB n s).length ≤ 64 * needB s := by
  have h := need_rec n s
  unfold sec at h
  omega
theorem padR_len (n : Int) (s : Txt) : (padR n s).length = 64 * needB s := by
  have h := recB_le n s
  simp only [padR, List.length_append, List.length_replicate]
  omega
theorem st_of_pad {n : Int} {s g : Txt} (hs : s.length ≤ 1000000) (h : padR n s <+: g) : stG g n = (s, true) := by
  obtain ⟨t, rfl⟩ := h
  have hr := recB_le n s
  have hpl := padR_len n s
  obtain ⟨R, hR⟩ : ∃ R, R = tailB (crcSum (num8 n ++ textB s)) ++ (List.replicate (64 * needB s - (recB n s).length) 0 ++ t) := ⟨_, rfl⟩
  have hg : padR n s ++ t = num8 n ++ (textB s ++ R) := by
    rw [hR]
    unfold padR
    generalize 64 * needB s - (recB n s).length = z
    rw [show recB n s = num8 n ++ textB s ++ tailB (crcSum (num8 n ++ textB s)) from rfl]
    simp only [List.append_assoc]
  have hp : cutP (padR n s ++ t) (num8 n) = (textB s ++ R, true) := by
    unfold cutP
    rw [if_pos (preB_iff.2 ⟨_, hg.symm⟩), hg, List.drop_left]
  have htb := textB_len s (by omega)
  have ht : tkG (padR n s ++ t) n = (s, R, 0) := by
    unfold tkG
    rw [hp]
    show takeText (textB s ++ R) _ = _
    rw [takeText_textB _ _ _ (by omega), if_neg (by rw [List.length_append]; omega)]
  have hsz : szG (padR n s ++ t) n = 64 * needB s := by rw [szG_need, ht]
  have hrec : recG (padR n s ++ t) n = recB n s := by unfold recG; rw [ht]
  have hbe : behG (padR n s ++ t) n = (List.replicate (64 * needB s - (recB n s).length) 0, true) := by
    unfold behG
    rw [hsz, hrec, List.take_left' hpl]
    unfold cutP
    rw [if_pos (preB_iff.2 (show recB n s <+: padR n s from ⟨_, rfl⟩))]
    unfold padR
    rw [List.drop_left]
  unfold stG
  rw [if_pos (by rw [hp]), if_pos (by rw [ht]), if_pos (by rw [hsz, List.length_append, hpl]; omega), ht, hbe]
  have hz : trimL 0 (trimR 0 (List.replicate (64 * needB s - (recB n s).length) 0)) = [] := trim_nil.2 fun b hb => (List.mem_replicate.1 hb).2
  rw [show ((List.replicate (64 * needB s - (recB n s).length) 0, true) : Txt × Bool).1 = List.replicate (64 * needB s - (recB n s).length) 0 from rfl, hz]
  rfl
theorem pad_of_st {n : Int} {g : Txt} (h : (stG g n).2 = true) : padR n (stG g n).1 <+: g := by
  have hf := st_fits h
  have hs : (stG g n).1 = (tkG g n).1 := hf.1
  have hb : ((behG g n).2 = true ∧ trimL 0 (trimR 0 (behG g n).1) = []) ∧ szG g n ≤ g.length := by
    unfold stG at h
    split at h
    · split at h
      · split at h
        · rename_i h3
          exact ⟨by simpa using h, h3⟩
        · cases h
      · cases h
    · cases h
  obtain ⟨⟨hb1, hb2⟩, hsz⟩ := hb
  by_cases hp : preB (g.take (szG g n)) (recG g n) = true
  · have e : behG g n = ((g.take (szG g n)).drop (recG g n).length, true) := if_pos hp
    obtain ⟨z, hz⟩ := preB_iff.1 hp
    rw [e, ← hz] at hb2
    simp only [List.drop_left] at hb2
    have hz0 : z = List.replicate z.length 0 := List.eq_replicate_of_mem (trim_nil.1 hb2)
    have hl := congrArg List.length hz
    rw [List.length_append, List.length_take, Nat.min_eq_left hsz, szG_need] at hl
    have he : padR n (tkG g n).1 = g.take (szG g n) := by
      rw [← hz]
      unfold padR
      rw [hz0]
      show recG g n ++ _ = _
      congr 2
      show _ - (recG g n).length = _
      omega
    rw [hs, he]
    exact List.take_prefix _ _
  · have e : behG g n = (g.take (szG g n), false) := if_neg hp
    rw [e] at hb1
    cases hb1
theorem recsF_fuel : ∀ (f f' : Nat) (g : Txt) (n : Int), g.length ≤ f → g.length ≤ f' → recsF f g n = recsF f' g n
  | 0, f', g, n, h, _ => by
    obtain rfl : g = [] := List.eq_nil_of_length_eq_zero (by omega)
    cases f' with
    | zero => rfl
    | succ f' => rw [recsF, recsF, if_neg (by rw [st_nil]; decide)]
  | f + 1, 0, g, n, _, h => by
    obtain rfl : g = [] := List.eq_nil_of_length_eq_zero (by omega)
    rw [recsF, recsF, if_neg (by rw [st_nil]; decide)]
  | f + 1, f' + 1, g, n, h, h' => by
    rw [recsF, recsF]
    have hp := needB_pos (stG g n).1
    split
    · rw [recsF_fuel f f' _ _ (by rw [List.length_drop]; omega) (by rw [List.length_drop]; omega)]
    · rfl
theorem recs_cons {g : Txt} {n : Int} (h : (stG g n).2 = true) : recsG g n = (stG g n).1 :: recsG (g.drop (64 * needB (stG g n).1)) ((n + 1) % 18446744073709551616) := by
  have h1 := (st_fits h).2
  have h2 := needB_pos (stG g n).1
  unfold recsG
  rw [recsF_fuel g.length (g.length + 1) g n (Nat.le_refl _) (by omega), recsF, if_pos h, recsF_fuel g.length _ _ _ (by rw [List.length_drop]; omega) (Nat.le_refl _)]
theorem recs_none {g : Txt} {n : Int} (h : (stG g n).2 = false) : recsG g n = [] := by
  unfold recsG
  rw [recsF_fuel g.length (g.length + 1) g n (Nat.le_refl _) (by omega), recsF, if_neg (by rw [h]; decide)]
theorem recs_nil (n : Int) : recsG [] n = [] := recs_none (st_nil n)
def catR : Int → List Txt → Txt
  | _, [] => []
  | n, s :: r => padR n s ++ catR ((n + 1) % 18446744073709551616) r
theorem catR_len : ∀ (ts : List Txt) (n : Int), (catR n ts).length = 64 * sumN ts
  | [], _ => rfl
  | s :: r, n => by
    rw [catR, List.length_append, catR_len r, padR_len]
    simp only [sumN, List.map_cons, List.sum_cons]
    omega
theorem recs_cat : ∀ (ts : List Txt) (n : Int) (g : Txt), (∀ s ∈ ts, s.length ≤ 1000000) → U64 n → recsG (catR n ts ++ g) n = ts ++ recsG g ((n + (ts.length : Int)) % 18446744073709551616)
  | [], n, g, _, hn => by
    obtain ⟨h0, h1⟩ := hn
    show recsG g n = recsG g ((n + ((0 : Nat) : Int)) % 18446744073709551616)
    rw [show (n + ((0 : Nat) : Int)) % 18446744073709551616 = n from by omega]
  | s :: r, n, g, hs, hn => by
    have hst : stG (catR n (s :: r) ++ g) n = (s, true) := st_of_pad (hs s List.mem_cons_self) (by rw [catR, List.append_assoc]; exact List.prefix_append _ _)
    rw [recs_cons (by rw [hst]), hst]
    have hd : (catR n (s :: r) ++ g).drop (64 * needB s) = catR ((n + 1) % 18446744073709551616) r ++ g := by
      rw [catR, List.append_assoc, List.drop_left' (padR_len n s)]
    show s :: recsG ((catR n (s :: r) ++ g).drop (64 * needB s)) _ = _
    obtain ⟨h0, h1⟩ := hn
    rw [hd, recs_cat r _ g (fun x hx => hs x (List.mem_cons_of_mem _ hx)) ⟨by omega, by omega⟩, show (n + ((s :: r).length : Int)) % 18446744073709551616 = ((n + 1) % 18446744073709551616 + (r.length : Int)) % 18446744073709551616 from by rw [List.length_cons]; omega]
    rfl
theorem cat_append : ∀ (a b : List Txt) (n : Int), U64 n → catR n (a ++ b) = catR n a ++ catR ((n + (a.length : Int)) % 18446744073709551616) b
  | [], b, n, hn => by
    obtain ⟨h0, h1⟩ := hn
    show catR n b = catR ((n + ((0 : Nat) : Int)) % 18446744073709551616) b
    rw [show (n + ((0 : Nat) : Int)) % 18446744073709551616 = n from by omega]
  | s :: a, b, n, hn => by
    obtain ⟨h0, h1⟩ := hn
    rw [List.cons_append, catR, catR, cat_append a b _ ⟨by omega, by omega⟩, List.append_assoc, show (n + ((s :: a).length : Int)) % 18446744073709551616 = ((n + 1) % 18446744073709551616 + (a.length : Int)) % 18446744073709551616 from by rw [List.length_cons]; omega]
theorem cat_recs : ∀ (f : Nat) (g : Txt) (n : Int), catR n (recsF f g n) <+: g
  | 0, g, n => List.nil_prefix
  | f + 1, g, n => by
    rw [recsF]
    split
    · rename_i hs
      have key : ∀ s : Txt, padR n s <+: g → padR n s ++ catR ((n + 1) % 18446744073709551616) (recsF f (g.drop (64 * needB s)) ((n + 1) % 18446744073709551616)) <+: g := by
        rintro s ⟨t, rfl⟩
        rw [List.drop_left' (padR_len n s)]
        exact (List.prefix_append_right_inj _).2 (cat_recs f t _)
      exact key _ (pad_of_st hs)
    · exact List.nil_prefix
theorem cat_pre {n : Int} (hn : U64 n) (ts : List Txt) (k : Nat) : catR n (ts.take k) <+: catR n ts := by
  conv => rhs; rw [← List.take_append_drop k ts, cat_append _ _ _ hn]
  exact List.prefix_append _ _
theorem recs_cut {g : Txt} {n : Int} (hn : U64 n) (k : Nat) : catR n ((recsG g n).take k) = g.take (64 * sumN ((recsG g n).take k)) := by
  have h := (cat_pre hn (recsG g n) k).trans (cat_recs g.length g n)
  have e := List.prefix_iff_eq_take.1 h
  rw [catR_len] at e
  exact e
theorem sumN_mem {ts : List Txt} {s : Txt} (h : s ∈ ts) : needB s ≤ sumN ts := by
  induction ts with
  | nil => cases h
  | cons a r ih =>
    simp only [sumN, List.map_cons, List.sum_cons] at ih ⊢
    rcases List.mem_cons.1 h with rfl | h
    · omega
    · have := ih h
      omega
theorem sumN_app (a b : List Txt) : sumN (a ++ b) = sumN a + sumN b := by simp [sumN]
theorem sumN_drop (ts : List Txt) (k : Nat) : sumN (ts.take k) + sumN (ts.drop k) = sumN ts := by
  rw [← sumN_app, List.take_append_drop]
end Go.Proofs.YtlcepboedifniaaGreatDoor
