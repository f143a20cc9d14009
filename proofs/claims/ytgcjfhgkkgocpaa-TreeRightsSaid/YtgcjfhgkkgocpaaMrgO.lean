/- tree.Right. A file system by its numbers. Right file systems as trees: the mathematics. The laws TreeBelow, TreeRights over data. -/
import Derived.Test.YtgcjfhgkkgocpaaMrgN
import Derived.Test.YtgcjfhgkkgocpaaMrgK
import Derived.Test.YtgcjfhgkkgocpaaMrgM
set_option linter.unusedVariables false
set_option linter.unusedSimpArgs false
namespace Go.Proofs.Ytgcjfhgkkgocpaa
open Go Go.RowKit Copyhold
def nodeT (f : Fsy) (_ : Nat) (n : Nod) : Prop := 1 ≤ n.links ∧ n.links = (cntG (countF f) n.ino : Int) ∧ (n.kind = 2 → n.links = 1 ∧ hasB (reachF f 1) n.ino = true)
def keyT (f : Fsy) (z : Int) : Prop := findB f z = true ∧ ¬ z = 1
def rightT (f : Fsy) : Prop := rowsP f ∧ (∃ n, f.l[0]? = some n ∧ n.ino = 1 ∧ n.kind = 2 ∧ n.links = 0) ∧ (∀ p ∈ countF f, keyT f p.1) ∧ AllQ (nodeT f) (f.l.drop 1)
theorem nodup_leN : ∀ {U A : List Nat}, U.Nodup → (∀ z ∈ U, z ∈ A) → U.length ≤ A.length
  | [], A, _, _ => Nat.zero_le _
  | x :: r, A, hn, hs => by
    obtain ⟨h1, h2⟩ := List.nodup_cons.1 hn
    have hx : x ∈ A := hs x (by simp)
    have := nodup_leN (U := r) (A := A.erase x) h2 fun z hz => (List.mem_erase_of_ne (a := z) (b := x) (fun e => h1 (by rw [← e]; exact hz))).2 (hs z (by simp [hz]))
    rw [List.length_erase_of_mem hx] at this
    have := List.length_pos_of_mem hx
    simp only [List.length_cons]
    omega
theorem nodup_len {L : List Nat} {n : Nat} (h : L.Nodup) (hl : ∀ j ∈ L, j < n) : L.length ≤ n := by
  have := nodup_leN (A := List.range n) h fun j hj => List.mem_range.2 (hl j hj)
  rwa [List.length_range] at this
def SeenT (f : Fsy) (sn : List Nat) : Prop := sn.Nodup ∧ (∀ j ∈ sn, j < (countF f).length) ∧ ∀ j ∈ sn, ∀ p, (countF f)[j]? = some p → keyT f p.1
theorem SeenT.nil (f : Fsy) : SeenT f [] := ⟨List.nodup_nil, fun j h => (by cases h), fun j h => (by cases h)⟩
theorem SeenT.more {f : Fsy} {sn : List Nat} {j : Nat} {y : Int × Nat} (h : SeenT f sn) (hl : j < (countF f).length) (hn : j ∉ sn) (hy : (countF f)[j]? = some y) (hk : keyT f y.1) : SeenT f (j :: sn) := by
  refine ⟨List.nodup_cons.2 ⟨hn, h.1⟩, fun k hk' => ?_, fun k hk' p hp => ?_⟩
  · rcases List.mem_cons.1 hk' with rfl | hk'
    · exact hl
    · exact h.2.1 k hk'
  · rcases List.mem_cons.1 hk' with rfl | hk'
    · rw [hy] at hp
      obtain rfl := Option.some.inj hp
      exact hk
    · exact h.2.2 k hk' p hp
theorem SeenT.less {f : Fsy} {sn : List Nat} {j : Nat} (h : SeenT f sn) (hl : j < (countF f).length) (hn : j ∉ sn) : sn.length < (countF f).length := by
  have := nodup_len (List.nodup_cons.2 ⟨hn, h.1⟩) (n := (countF f).length) fun k hk => by
    rcases List.mem_cons.1 hk with rfl | hk
    · exact hl
    · exact h.2.1 k hk
  simp only [List.length_cons] at this
  omega
theorem SeenT.all {f : Fsy} {sn : List Nat} (h : SeenT f sn) (ha : ∀ j, j < (cntM (countF f)).length → j ∈ sn) : ∀ p ∈ countF f, keyT f p.1 := fun p hp => by
  obtain ⟨j, hj⟩ := List.getElem?_of_mem hp
  exact h.2.2 j (ha j (by have := lt_of_some hj; simpa [cntM] using this)) p hj
theorem none_all {es : List (MK × AV)} {sn : List Nat} (a : { a : Option Nat // nxtP es sn a }) (h : a.1.isSome = false) : ∀ j, j < es.length → j ∈ sn := by
  obtain ⟨x, hx⟩ := a
  cases x with
  | none => exact hx
  | some j => cases h
set_option maxRecDepth 100000 in
set_option maxHeartbeats 4000000 in
theorem right_spec_t (f : Fsy) (okf : OkF f) : FSpec Try.prog 23 [.agg [.sl 5 false (f.l.map nodA), aI f.next]] (aB (dP (rightT f))) := by
  exact spec_vc (F := Try.f23) 400 (
 .into <| .new fun b1 => .r 1 <| .into <| .into <| .run 1 [b1 = b1] ⟨rfl, trivial⟩ <|
 .call (rows_spec f okf) <|
 .r 2 <| .br 16 (!(dP (rowsP f))) (fun q1 => have q1 := notT q1; have p1 := booF q1; .r 5 <| .into <| .r 1 <| .fin (x := aB false) (r := aB (dP (rightT f))) [] trivial (by
    refine sF (fun h => ?_)
    obtain ⟨g, ⟨n, hn, a, b, c⟩, _⟩ := h
    first | exact dP_false.1 (by assumption) g | (have := lt_of_some hn; omega)))
 <| fun q1 => have q1 := notF q1; have p1 := booT q1; have hp := dP_true.1 q1; have hfl := hp.1; .run 3 [b1 = b1] ⟨rfl, trivial⟩ <|
 .val 19 (show (aI ((f.l.map nodA).length : Int) : AV) = aI (f.l.length : Int) from by rw [List.length_map]) <| .r 2 <| .br 21 ((f.l.length : Int) == 0) (fun q2 => have p2 := beqT q2; .into <| .r 1 <| .fin (x := aB false) (r := aB (dP (rightT f))) [] trivial (by
    refine sF (fun h => ?_)
    obtain ⟨g, ⟨n, hn, a, b, c⟩, _⟩ := h
    first | exact dP_false.1 (by assumption) g | (have := lt_of_some hn; omega)))
 <| fun q2 => have p2 := beqF q2; .into <| .run 2 [b1 = b1] ⟨rfl, trivial⟩ <|
 .idxM f.l nodA 0 (m := 0) rfl (by omega) fun x1 hx1 =>
 .r 1 <| .new fun b2 => .run 1 [b2 = b2] ⟨rfl, trivial⟩ <|
 .into <| .into <| .run 4 [b2 = b2] ⟨rfl, trivial⟩ <|
 .br 29 (x1.ino != 1) (fun q3 => have p3 := bneT q3; .r 9 <| .into <| .r 1 <| .fin (x := aB false) (r := aB (dP (rightT f))) [] trivial (by
    refine sF (fun h => ?_)
    obtain ⟨g, ⟨n, hn, a, b, c⟩, _⟩ := h
    first | exact dP_false.1 (by assumption) g | (have := lt_of_some hn; omega)| (rw [hx1] at hn; obtain rfl := Option.some.inj hn; omega)))
 <| fun q3 => have p3 := bneF q3; .run 5 [b2 = b2] ⟨rfl, trivial⟩ <|
 .br 34 (x1.kind != 2) (fun q4 => have p4 := bneT q4; .r 4 <| .into <| .r 1 <| .fin (x := aB false) (r := aB (dP (rightT f))) [] trivial (by
    refine sF (fun h => ?_)
    obtain ⟨g, ⟨n, hn, a, b, c⟩, _⟩ := h
    first | exact dP_false.1 (by assumption) g | (have := lt_of_some hn; omega)| (rw [hx1] at hn; obtain rfl := Option.some.inj hn; omega)))
 <| fun q4 => have p4 := bneF q4; .run 4 [b2 = b2] ⟨rfl, trivial⟩ <|
 .br 38 (x1.links != 0) (fun q5 => have p5 := bneT q5; .into <| .r 1 <| .fin (x := aB false) (r := aB (dP (rightT f))) [] trivial (by
    refine sF (fun h => ?_)
    obtain ⟨g, ⟨n, hn, a, b, c⟩, _⟩ := h
    first | exact dP_false.1 (by assumption) g | (have := lt_of_some hn; omega)| (rw [hx1] at hn; obtain rfl := Option.some.inj hn; omega)))
 <| fun q5 => have p5 := bneF q5; .into <| .run 1 [b1 = b1] ⟨rfl, trivial⟩ <|
 .call (count_spec f hp) <|
 .r 1 <| .into <| .via 101 (nav [1, 1, 1, 1, 1, 0] (Try.f23.body.getD .skip)) (nav [1, 1, 1, 1, 1, 0, 1] (Try.f23.body.getD .skip)) (rngR 4 42) (cntM (countF f)) (fun (b : Nat) σ => ((σ.put (some 41) .any).put (some 42) (.ptr 42 b 0)).setB 42 (.iter b (cntM (countF f)) [])) (rule_rngO (kt := 3) (et := 3) rfl ⟨rfl, rfl, rfl⟩ ⟨rfl, rfl, rfl⟩ (by kernel_rfl) (by decide)) fun b3 =>
 .into <| let L1 : Lp (List Nat) := ⟨fun a1 => ⟨[(1, .ptr 1 b1 0), (4, .mp (cntM (countF f))), (42, .ptr 42 b3 0)], [(1, .box b1 24 [.sl 5 false (f.l.map nodA), aI f.next]), (42, .iter b3 (cntM (countF f)) a1)]⟩, fun a1 => (countF f).length - a1.length, fun a1 => SeenT f a1⟩
 .loop L1 ([]) (show SeenT f ([]) from (SeenT.nil f)) ⟨[(1, .ptr 1 b1 0), (4, .mp (cntM (countF f))), (42, .ptr 42 b3 0)], [(1, .box b1 24 [.sl 5 false (f.l.map nodA), aI f.next]), (42, .iter b3 (cntM (countF f)) ([]))]⟩ ⟨Sub.refl _, Sub.refl _, Sub.refl _, trivial⟩ ⟨⟨_, rfl, SubB.refl _⟩, ⟨_, rfl, SubB.refl _⟩, trivial⟩ fun a1 ha1 =>
 (fun (sn : List Nat) (hH1 : SeenT f sn) => .via 101 (nav [1, 1, 1, 1, 1, 0, 1, 2, 2] (Try.f23.body.getD .skip)) (nav [1, 1, 1, 1, 1, 0, 1, 2, 2, 1] (Try.f23.body.getD .skip)) (fun s => (nxtR 42 s).map fun x => (x, lget s.tm 42)) ((b3, b3, cntM (countF f), sn), .ptr 42 b3 0) (fun (a : { a : Option Nat // nxtP (cntM (countF f)) sn a }) σ => ((σ.put (some 43) .any).put (some 44) (aB a.1.isSome)).setB 42 (.iter b3 (cntM (countF f)) (nxtS sn a.1))) (rule_next 42 rfl ⟨rfl, rfl, rfl⟩ ⟨rfl, rfl, rfl⟩ (by decide)) fun a2n =>
 .into <| .br 44 (a2n.1.isSome) (fun q6 => have p6 := booT q6; .into <| .ex (Option.isSome_iff_exists.1 q6) fun j3n hj3n => have hpj3n : nxtP (cntM (countF f)) sn (some j3n) := (hj3n ▸ a2n.2); have hlj3n : j3n < (countF f).length := (by have := hpj3n.1; simpa [cntM] using this);
 .st (itR 42) (b3, cntM (countF f), nxtS sn a2n.1) (fun (_ : Unit) σ => σ.setB 42 (.iter b3 (cntM (countF f)) (j3n :: sn))) (rule_it (by rw [hj3n]; rfl)) fun _ =>
 .ex (some_of (l := (countF f)) (k := j3n) hlj3n) fun x4 hx4 =>
 .via 101 (nav [1, 1, 1, 1, 1, 0, 1, 2, 2, 1, 1, 2] (Try.f23.body.getD .skip)) (nav [1, 1, 1, 1, 1, 0, 1, 2, 2, 1, 1, 2, 1] (Try.f23.body.getD .skip)) (fun s => (nxtR 42 s).map fun x => (x, lget s.tm 42)) ((b3, b3, cntM (countF f), j3n :: sn), .ptr 42 b3 0) (fun (_ : Unit) σ => (((σ.put (some 45) .any).put (some 46) (aI x4.1)).put (some 5) (aI x4.1))) (rule_entry 42 (p := (.i x4.1, aI (x4.2 : Int))) (by unfold cntM; rw [List.getElem?_map, hx4]; rfl) rfl ⟨rfl, rfl, rfl⟩ ⟨rfl, rfl, rfl⟩ ⟨rfl, rfl, rfl⟩ (by decide)) fun _ =>
 .into <| .run 2 [b1 = b1] ⟨rfl, trivial⟩ <|
 .call (tfind_spec f x4.1 (by omega) (rows_rise hp)) <|
 .r 3 <| .new fun b4 => .run 2 [b4 = b4] ⟨rfl, trivial⟩ <|
 .into <| .r 3 <| .br 55 (!(findB f x4.1)) (fun q7 => have q7 := notT q7; have p7 := booF q7; .r 3 <| .into <| .r 1 <| .fin (x := aB false) (r := aB (dP (rightT f))) [] trivial (by
    refine sF (fun h => ?_)
    obtain ⟨g1, g2⟩ := h.2.2.1 x4 (List.mem_of_getElem? hx4)
    first | (rw [g1] at *; contradiction) | simp_all))
 <| fun q7 => have q7 := notF q7; have p7 := booT q7; .r 3 <| .br 58 (x4.1 == 1) (fun q8 => have p8 := beqT q8; .into <| .r 1 <| .fin (x := aB false) (r := aB (dP (rightT f))) [] trivial (by
    refine sF (fun h => ?_)
    obtain ⟨g1, g2⟩ := h.2.2.1 x4 (List.mem_of_getElem? hx4)
    first | (rw [g1] at *; contradiction) | simp_all))
 <| fun q8 => have p8 := beqF q8; .back L1 sn (j3n :: sn) (show SeenT f (j3n :: sn) from (hH1.more hlj3n hpj3n.2 hx4 ⟨q7, by simpa using q8⟩)) (show (countF f).length - (j3n :: sn).length < (countF f).length - sn.length from (by have := hH1.less hlj3n hpj3n.2; simp only [List.length_cons]; omega)) ⟨[(1, .ptr 1 b1 0), (4, .mp (cntM (countF f))), (42, .ptr 42 b3 0)], [(1, .box b1 24 [.sl 5 false (f.l.map nodA), aI f.next]), (42, .iter b3 (cntM (countF f)) (j3n :: sn))]⟩ ⟨Sub.refl _, Sub.refl _, Sub.refl _, trivial⟩ ⟨⟨_, rfl, SubB.refl _⟩, ⟨_, rfl, SubB.refl _⟩, trivial⟩)
 <| fun q6 => have p6 := booF q6; .into <| .run 1 [b1 = b1] ⟨rfl, trivial⟩ <|
 .call (reach_spec f 1 okf (by omega) (rows_rise hp)) <|
 .r 1 <| .into <| .into <| .run 2 [b1 = b1] ⟨rfl, trivial⟩ <|
 .slc 5 false (f.l.map nodA) (some 1) none none 1 ((f.l.map nodA).length) false (.inr rfl) (.inl ⟨rfl, rfl⟩) (.inl ⟨rfl, fun h => by cases h⟩) (by simp <;> omega) (by simp <;> omega) <|
 .r 2 <| .into <| let L2 : Lp (Nat) := ⟨fun a2 => ⟨[(4, .mp (cntM (countF f))), (8, .mp (setM (reachF f 1))), (65, aI (a2 : Int)), (63, .sl 5 false ((f.l.drop 1).map nodA)), (64, aI ((f.l.drop 1).length : Int))], []⟩, fun a2 => (f.l.drop 1).length - a2, fun a2 => AllTo (nodeT f) (f.l.drop 1) a2⟩
 .loop L2 0 (show AllTo (nodeT f) (f.l.drop 1) 0 from (AllTo.zero _ _)) ⟨[(4, .mp (cntM (countF f))), (8, .mp (setM (reachF f 1))), (65, aI 0), (63, .sl 5 false (((f.l.map nodA).take ((f.l.map nodA).length)).drop 1)), (64, aI ((((f.l.map nodA).take ((f.l.map nodA).length)).drop 1).length : Int))], []⟩ ⟨Sub.refl _, Sub.refl _, Sub.of_eq (congrArg aI (by first | omega | rfl)), Sub.of_eq (congrArg (AV.sl 5 false) (by rw [take_all (by simp), List.map_drop])), Sub.of_eq (congrArg aI (by simp)), trivial⟩ trivial fun a2 ha2 =>
 (fun (k : Nat) (hH2 : AllTo (nodeT f) (f.l.drop 1) k) => have hld : (f.l.drop 1).length = f.l.length - 1 := List.length_drop; .into <| .r 1 <| .into <| .br 66 (decide ((k : Int) < ((f.l.drop 1).length : Int))) (fun q9 => have p9 := decT q9; .into <| .into <| .into <| .idxM (f.l.drop 1) nodA k (m := (k : Int)) rfl (by omega) fun x5 hx5 =>
 .r 1 <| .new fun b5 => .run 1 [b5 = b5] ⟨rfl, trivial⟩ <|
 .into <| .into <| .run 4 [b5 = b5] ⟨rfl, trivial⟩ <|
 .br 72 (decide (x5.links < 1)) (fun q10 => have p10 := decT q10; .r 8 <| .into <| .r 1 <| .fin (x := aB false) (r := aB (dP (rightT f))) [] trivial (by
    refine sF (fun h => ?_)
    obtain ⟨g1, g2, g3⟩ := h.2.2.2.at hx5
    first | omega | (have := g3 (by omega); first | omega | simp_all)))
 <| fun q10 => have p10 := decF q10; .run 5 [b5 = b5, b5 = b5] ⟨rfl, rfl, trivial⟩ <|
 .op (lkRO Try.prog) ((3, some (.int .i64 0)), cntM (countF f), .i x5.ino, false, some 78) (fun (_ : Unit) σ => σ.put (some 78) (aI (cntG (countF f) x5.ino : Int))) (rule_lookO (mfind (.i x5.ino) (cntM (countF f)) 0) (keys_i (by kernel_rfl) _ (cntM_keys (countF f))) (by kernel_rfl) rfl (cntM_look (countF f) x5.ino)) fun _ =>
 have hcg := cntG_le (countF f) x5.ino; .r 2 <| .br 80 (x5.links != (cntG (countF f) x5.ino : Int)) (fun q11 => have p11 := bneT q11; .into <| .r 1 <| .fin (x := aB false) (r := aB (dP (rightT f))) [] trivial (by
    refine sF (fun h => ?_)
    obtain ⟨g1, g2, g3⟩ := h.2.2.2.at hx5
    first | omega | (have := g3 (by omega); first | omega | simp_all)))
 <| fun q11 => have p11 := bneF q11; .into <| .run 3 [b5 = b5] ⟨rfl, trivial⟩ <|
 .op (lkRO Try.prog) ((3, some (.agg #[])), setM (reachF f 1), .i x5.ino, true, some 85) (fun (_ : Unit) σ => σ.put (some 85) (.tup [.agg [], aB (hasB (reachF f 1) x5.ino)])) (rule_lookO (mfind (.i x5.ino) (setM (reachF f 1)) 0) (keys_i (by kernel_rfl) _ (setM_keys (reachF f 1))) (by kernel_rfl) rfl (setM_look (reachF f 1) x5.ino)) fun _ =>
 .r 3 <| .new fun b6 => .run 2 [b6 = b6] ⟨rfl, trivial⟩ <|
 .into <| .run 4 [b5 = b5] ⟨rfl, trivial⟩ <|
 .br 91 (x5.kind == 2) (fun q12 => have p12 := beqT q12; .run 4 [b5 = b5] ⟨rfl, trivial⟩ <|
 .br 95 (x5.links != 1) (fun q13 => have p13 := bneT q13; .r 4 <| .into <| .r 1 <| .fin (x := aB false) (r := aB (dP (rightT f))) [] trivial (by
    refine sF (fun h => ?_)
    obtain ⟨g1, g2, g3⟩ := h.2.2.2.at hx5
    first | omega | (have := g3 (by omega); first | omega | simp_all)))
 <| fun q13 => have p13 := bneF q13; .r 4 <| .br 99 (!(hasB (reachF f 1) x5.ino)) (fun q14 => have q14 := notT q14; have p14 := booF q14; .into <| .r 1 <| .fin (x := aB false) (r := aB (dP (rightT f))) [] trivial (by
    refine sF (fun h => ?_)
    obtain ⟨g1, g2, g3⟩ := h.2.2.2.at hx5
    first | omega | (have := g3 (by omega); first | omega | simp_all)))
 <| fun q14 => have q14 := notF q14; have p14 := booT q14; .run 2 [rng .i64 ((k : Int) + 1)] ⟨rng64 (by omega) (by omega), trivial⟩ <|
 .back L2 k (k + 1) (show AllTo (nodeT f) (f.l.drop 1) (k + 1) from (hH2.step hx5 ⟨by omega, by omega, fun hk => by simp_all⟩)) (show (f.l.drop 1).length - (k + 1) < (f.l.drop 1).length - k from (by omega)) ⟨[(4, .mp (cntM (countF f))), (8, .mp (setM (reachF f 1))), (65, aI ((k : Int) + 1)), (63, .sl 5 false ((f.l.drop 1).map nodA)), (64, aI ((f.l.drop 1).length : Int))], []⟩ ⟨Sub.refl _, Sub.refl _, Sub.of_eq (congrArg aI (by first | omega | rfl)), Sub.refl _, Sub.refl _, trivial⟩ trivial)
 <| fun q12 => have p12 := beqF q12; .r 8 <| .run 2 [rng .i64 ((k : Int) + 1)] ⟨rng64 (by omega) (by omega), trivial⟩ <|
 .back L2 k (k + 1) (show AllTo (nodeT f) (f.l.drop 1) (k + 1) from (hH2.step hx5 ⟨by omega, by omega, fun hk => by simp_all⟩)) (show (f.l.drop 1).length - (k + 1) < (f.l.drop 1).length - k from (by omega)) ⟨[(4, .mp (cntM (countF f))), (8, .mp (setM (reachF f 1))), (65, aI ((k : Int) + 1)), (63, .sl 5 false ((f.l.drop 1).map nodA)), (64, aI ((f.l.drop 1).length : Int))], []⟩ ⟨Sub.refl _, Sub.refl _, Sub.of_eq (congrArg aI (by first | omega | rfl)), Sub.refl _, Sub.refl _, trivial⟩ trivial)
 <| fun q9 => have p9 := decF q9; .into <| .r 1 <| .fin (x := aB true) (r := aB (dP (rightT f))) [] trivial (by refine sT ⟨hp, ⟨x1, hx1, by omega, by omega, by omega⟩, hH1.all (none_all a2n (by assumption)), hH2.full (by omega)⟩)) a2 ha2) a1 ha1) Try.func23 rfl (by kernel_rfl) (by kernel_rfl)
end Go.Proofs.Ytgcjfhgkkgocpaa

set_option linter.unusedVariables false
set_option linter.unusedSimpArgs false
namespace Go.Proofs.Ytgcjfhgkkgocpaa
open Go Go.RowKit Copyhold
def atF (f : Fsy) (i : Int) : Option Nod := f.l.find? (isNo i)
theorem at_B (f : Fsy) (i : Int) : findB f i = (atF f i).isSome := findBN f i
theorem at_N (f : Fsy) (i : Int) : findN f i = (atF f i).getD nod0 := rfl
theorem at_ino {f : Fsy} {i : Int} {n : Nod} (h : atF f i = some n) : n.ino = i := by simpa [isNo] using List.find?_some h
theorem at_mem {f : Fsy} {i : Int} {n : Nod} (h : atF f i = some n) : n ∈ f.l := List.mem_of_find?_eq_some h
theorem at_of {f : Fsy} {n : Nod} (hr : RiseN f.l) (h : n ∈ f.l) : atF f n.ino = some n := find_unique hr h rfl
theorem at_BN {f : Fsy} {i : Int} {n : Nod} (h : atF f i = some n) : findB f i = true ∧ findN f i = n := ⟨by rw [at_B, h]; rfl, by rw [at_N, h]; rfl⟩
theorem at_some {f : Fsy} {i : Int} (h : findB f i = true) : atF f i = some (findN f i) := by
  rw [at_B] at h
  cases hc : atF f i with
  | none => rw [hc] at h; cases h
  | some n => rw [at_N, hc]; rfl
end Go.Proofs.Ytgcjfhgkkgocpaa

set_option linter.unusedVariables false
set_option linter.unusedSimpArgs false
namespace Go.Proofs.Ytgcjfhgkkgocpaa
open Go Go.RowKit Copyhold
def namK (z : Int) (n : Nod) : Nat := if n.kind = 2 then cntE z n else 0
def nam (f : Fsy) (z : Int) : Nat := (f.l.map (namK z)).sum
theorem cntEs_G (z : Int) : ∀ (l : List Ent) (L : List (Int × Nat)), cntG (cntEs L l) z = cntG L z + l.countP (isE z)
  | [], L => rfl
  | e :: r, L => by
    show cntG (cntEs (cntI L e.ino) r) z = _
    rw [cntEs_G z r, cntI_G, List.countP_cons]
    unfold isE
    by_cases h : e.ino = z <;> simp [h] <;> omega
theorem cntNs_G (z : Int) : ∀ (l : List Nod) (L : List (Int × Nat)), cntG (cntNs L l) z = cntG L z + (l.map (namK z)).sum
  | [], L => rfl
  | n :: r, L => by
    show cntG (cntNs (if n.kind = 2 then cntEs L n.l else L) r) z = _
    rw [cntNs_G z r]
    simp only [List.map_cons, List.sum_cons, namK]
    split
    · rw [cntEs_G]; unfold cntE; omega
    · omega
theorem count_nam (f : Fsy) (z : Int) : cntG (countF f) z = nam f z := by
  unfold countF nam
  rw [cntNs_G]
  simp [cntG]
theorem cntG_key : ∀ {L : List (Int × Nat)} {z : Int}, 1 ≤ cntG L z → ∃ p ∈ L, p.1 = z
  | p :: r, z, h => by
    unfold cntG at h
    split at h
    · rename_i e; exact ⟨p, by simp, e⟩
    · obtain ⟨q, hq, e⟩ := cntG_key h; exact ⟨q, by simp [hq], e⟩
theorem cntI_ok : ∀ {L : List (Int × Nat)} (y : Int), (∀ p ∈ L, 1 ≤ p.2) → ∀ p ∈ cntI L y, 1 ≤ p.2
  | [], y, _, p, hp => by obtain rfl := List.mem_singleton.1 hp; exact Nat.le_refl _
  | q :: r, y, h, p, hp => by
    unfold cntI at hp
    split at hp
    · rcases List.mem_cons.1 hp with rfl | hp
      · show 1 ≤ q.2 + 1; omega
      · exact h p (by simp [hp])
    · rcases List.mem_cons.1 hp with rfl | hp
      · exact h p (by simp)
      · exact cntI_ok y (fun p hp => h p (by simp [hp])) p hp
theorem cntI_dst : ∀ {L : List (Int × Nat)} (y : Int), (L.map (·.1)).Nodup → ((cntI L y).map (·.1)).Nodup ∧ ∀ z, z ∈ (cntI L y).map (·.1) → z = y ∨ z ∈ L.map (·.1)
  | [], y, _ => ⟨by simp [cntI], fun z hz => .inl (by simpa [cntI] using hz)⟩
  | q :: r, y, h => by
    unfold cntI
    split
    · exact ⟨h, fun z hz => .inr hz⟩
    · rename_i hne
      obtain ⟨h1, h2⟩ := List.nodup_cons.1 h
      obtain ⟨g1, g2⟩ := cntI_dst y h2
      refine ⟨List.nodup_cons.2 ⟨fun hm => ?_, g1⟩, fun z hz => ?_⟩
      · rcases g2 _ hm with e | e
        · exact hne e
        · exact h1 e
      · rcases List.mem_cons.1 hz with e | hz
        · exact .inr (by simp [e])
        · rcases g2 z hz with e | e
          · exact .inl e
          · exact .inr (by simp only [List.map_cons]; exact List.mem_cons_of_mem _ e)
def OkCnt (L : List (Int × Nat)) : Prop := (∀ p ∈ L, 1 ≤ p.2) ∧ (L.map (·.1)).Nodup
theorem OkCnt.step {L : List (Int × Nat)} (h : OkCnt L) (y : Int) : OkCnt (cntI L y) := ⟨cntI_ok y h.1, (cntI_dst y h.2).1⟩
theorem OkCnt.ents : ∀ {l : List Ent} {L : List (Int × Nat)}, OkCnt L → OkCnt (cntEs L l)
  | [], _, h => h
  | e :: r, _, h => OkCnt.ents (l := r) (h.step e.ino)
theorem OkCnt.nodes : ∀ {l : List Nod} {L : List (Int × Nat)}, OkCnt L → OkCnt (cntNs L l)
  | [], _, h => h
  | n :: r, L, h => by
    show OkCnt (cntNs (if n.kind = 2 then cntEs L n.l else L) r)
    refine OkCnt.nodes ?_
    split
    · exact h.ents
    · exact h
theorem count_ok (f : Fsy) : OkCnt (countF f) := OkCnt.nodes ⟨fun p h => (by cases h), List.nodup_nil⟩
theorem cntG_of : ∀ {L : List (Int × Nat)} {p : Int × Nat}, (L.map (·.1)).Nodup → p ∈ L → cntG L p.1 = p.2
  | q :: r, p, h, hp => by
    obtain ⟨h1, h2⟩ := List.nodup_cons.1 h
    unfold cntG
    rcases List.mem_cons.1 hp with rfl | hp
    · simp
    · rw [if_neg (fun e : q.1 = p.1 => h1 (by show q.1 ∈ r.map (·.1); rw [e]; exact List.mem_map_of_mem hp))]
      exact cntG_of h2 hp
theorem count_key {f : Fsy} {z : Int} : (∃ p ∈ countF f, p.1 = z) ↔ 1 ≤ nam f z := by
  rw [← count_nam]
  refine ⟨fun ⟨p, hp, e⟩ => ?_, cntG_key⟩
  rw [← e, cntG_of (count_ok f).2 hp]
  exact (count_ok f).1 p hp
theorem sum_pos {α : Type} {g : α → Nat} : ∀ {l : List α} {x : α}, x ∈ l → g x ≤ (l.map g).sum
  | y :: r, x, h => by
    have hs : ((y :: r).map g).sum = g y + (r.map g).sum := by simp
    rw [hs]
    rcases List.mem_cons.1 h with e | h
    · rw [e]; omega
    · have := sum_pos (g := g) h; omega
theorem sum_two {α : Type} {g : α → Nat} : ∀ {l : List α} {x y : α}, x ∈ l → y ∈ l → x ≠ y → g x + g y ≤ (l.map g).sum
  | z :: r, x, y, hx, hy, hne => by
    have hs : ((z :: r).map g).sum = g z + (r.map g).sum := by simp
    rw [hs]
    rcases List.mem_cons.1 hx with ex | hx <;> rcases List.mem_cons.1 hy with ey | hy
    · exact absurd (ex.trans ey.symm) hne
    · have := sum_pos (g := g) hy; rw [ex]; omega
    · have := sum_pos (g := g) hx; rw [ey]; omega
    · have := sum_two (g := g) hx hy hne; omega
theorem sum_some {α : Type} {g : α → Nat} : ∀ {l : List α}, 1 ≤ (l.map g).sum → ∃ x ∈ l, 1 ≤ g x
  | z :: r, h => by
    have hs : ((z :: r).map g).sum = g z + (r.map g).sum := by simp
    rw [hs] at h
    by_cases hz : 1 ≤ g z
    · exact ⟨z, by simp, hz⟩
    · obtain ⟨x, hx, hg⟩ := sum_some (g := g) (l := r) (by omega)
      exact ⟨x, by simp [hx], hg⟩
theorem kids_at2 {f : Fsy} {i : Int} {d : Nod} (h : atF f i = some d) (hk : d.kind = 2) : kidsF f i = d.l.map Ent.ino := by
  have := (at_BN h).2
  unfold kidsF
  rw [this, if_pos hk]
theorem kids_some {f : Fsy} {i z : Int} (h : z ∈ kidsF f i) : ∃ d, atF f i = some d ∧ d.kind = 2 ∧ ∃ e ∈ d.l, e.ino = z := by
  have h0 := h
  unfold kidsF at h
  split at h
  · rename_i hk
    have hb : findB f i = true := by
      cases hb : findB f i with
      | true => rfl
      | false => exact absurd hk (find_kind hb)
    obtain ⟨e, he, hz⟩ := List.mem_map.1 h
    exact ⟨_, at_some hb, hk, e, he, hz⟩
  · cases h
theorem kids_of {f : Fsy} {i z : Int} {d : Nod} {e : Ent} (h : atF f i = some d) (hk : d.kind = 2) (he : e ∈ d.l) (hz : e.ino = z) : z ∈ kidsF f i := by
  rw [kids_at2 h hk]
  exact List.mem_map.2 ⟨e, he, hz⟩
theorem namK_pos {z : Int} {d : Nod} : 1 ≤ namK z d ↔ d.kind = 2 ∧ ∃ e ∈ d.l, e.ino = z := by
  unfold namK cntE
  split
  · rename_i hk
    rw [show (1 ≤ d.l.countP (isE z)) = (0 < d.l.countP (isE z)) from rfl, List.countP_pos_iff]
    simp [isE, hk]
  · rename_i hk
    simp [hk]
theorem nam_pos {f : Fsy} {z : Int} (hr : RiseN f.l) : 1 ≤ nam f z ↔ ∃ i, z ∈ kidsF f i := by
  constructor
  · intro h
    obtain ⟨d, hd, hg⟩ := sum_some h
    obtain ⟨hk, e, he, hz⟩ := namK_pos.1 hg
    exact ⟨d.ino, kids_of (at_of hr hd) hk he hz⟩
  · rintro ⟨i, h⟩
    obtain ⟨d, hd, hk, e, he, hz⟩ := kids_some h
    exact Nat.le_trans (namK_pos.2 ⟨hk, e, he, hz⟩) (sum_pos (at_mem hd))
theorem nam_two {f : Fsy} {z i j : Int} (hi : z ∈ kidsF f i) (hj : z ∈ kidsF f j) (h1 : nam f z = 1) : i = j := by
  obtain ⟨d, hd, hk, e, he, hz⟩ := kids_some hi
  obtain ⟨d', hd', hk', e', he', hz'⟩ := kids_some hj
  by_cases hne : d = d'
  · rw [← at_ino hd, ← at_ino hd', hne]
  · have := sum_two (g := namK z) (at_mem hd) (at_mem hd') hne
    have := namK_pos.2 ⟨hk, e, he, hz⟩
    have := namK_pos.2 ⟨hk', e', he', hz'⟩
    unfold nam at h1
    omega
structure TreeP (f : Fsy) : Prop where
  rows : rowsP f
  root : ∃ n, atF f 1 = some n ∧ n.kind = 2 ∧ n.links = 0
  cnt : ∀ i n, atF f i = some n → n.links = (nam f i : Int)
  kid : ∀ i z, z ∈ kidsF f i → (∃ n, atF f z = some n) ∧ ¬ z = 1
  pos : ∀ i n, atF f i = some n → ¬ i = 1 → 1 ≤ n.links
  dir : ∀ i n, atF f i = some n → n.kind = 2 → ¬ i = 1 → n.links = 1 ∧ Reach f 1 i
theorem reach_last {f : Fsy} {a b : Int} (h : Reach f a b) : ∃ q, (q = a ∨ Reach f a q) ∧ b ∈ kidsF f q := by
  induction h with
  | one h => exact ⟨_, .inl rfl, h⟩
  | @more i y z h _ ih =>
    obtain ⟨q, hq, hk⟩ := ih
    refine ⟨q, .inr ?_, hk⟩
    rcases hq with rfl | hq
    · exact .one h
    · exact .more h hq
theorem reach_first {f : Fsy} {a b : Int} (h : Reach f a b) : ∃ y, y ∈ kidsF f a := by
  cases h with
  | one h => exact ⟨_, h⟩
  | more h _ => exact ⟨_, h⟩
inductive RT (f : Fsy) : Int → Prop where
  | base {z : Int} : z ∈ kidsF f 1 → RT f z
  | step {p z : Int} : RT f p → z ∈ kidsF f p → RT f z
theorem rt_of {f : Fsy} {a b : Int} (h : Reach f a b) : (a = 1 ∨ RT f a) → RT f b := by
  induction h with
  | one h =>
    rintro (rfl | hr)
    · exact .base h
    · exact .step hr h
  | more h _ ih =>
    rintro (rfl | hr)
    · exact ih (.inr (.base h))
    · exact ih (.inr (.step hr h))
theorem TreeP.no1 {f : Fsy} (h : TreeP f) {i : Int} : ¬ Reach f i 1 := fun hr => by
  obtain ⟨q, _, hk⟩ := reach_last hr
  exact (h.kid q 1 hk).2 rfl
theorem TreeP.reach {f : Fsy} (h : TreeP f) {i : Int} {n : Nod} (hn : atF f i = some n) (hi : ¬ i = 1) : Reach f 1 i := by
  by_cases hk : n.kind = 2
  · exact (h.dir i n hn hk hi).2
  · have hp := h.pos i n hn hi
    rw [h.cnt i n hn] at hp
    obtain ⟨q, hq⟩ := (nam_pos (rows_rise h.rows)).1 (show 1 ≤ nam f i by omega)
    by_cases h1 : q = 1
    · subst h1; exact .one hq
    · obtain ⟨d, hd, hdk, _⟩ := kids_some hq
      exact (h.dir q d hd hdk h1).2.snoc hq
theorem TreeP.one {f : Fsy} (h : TreeP f) {i : Int} {n : Nod} (hn : atF f i = some n) (hk : n.kind = 2) (hi : ¬ i = 1) : nam f i = 1 := by
  have h1 := (h.dir i n hn hk hi).1
  rw [h.cnt i n hn] at h1
  omega
theorem TreeP.acyc {f : Fsy} (h : TreeP f) {w : Int} : ¬ Reach f w w := by
  have key : ∀ w, RT f w → ¬ Reach f w w := by
    intro w hw
    induction hw with
    | @base z hz =>
      intro hr
      obtain ⟨q, hq, hk⟩ := reach_last hr
      obtain ⟨y, hy⟩ := reach_first hr
      obtain ⟨d, hd, hdk, _⟩ := kids_some hy
      have hz1 := (h.kid 1 z hz).2
      have e := nam_two hk hz (h.one hd hdk hz1)
      subst e
      rcases hq with e | hq
      · exact hz1 e.symm
      · exact h.no1 hq
    | @step p z hp hz ih =>
      intro hr
      obtain ⟨q, hq, hk⟩ := reach_last hr
      obtain ⟨y, hy⟩ := reach_first hr
      obtain ⟨d, hd, hdk, _⟩ := kids_some hy
      have hz1 := (h.kid p z hz).2
      have e := nam_two hk hz (h.one hd hdk hz1)
      subst e
      rcases hq with e | hq
      · rw [← e] at hr; exact ih hr
      · exact ih (.more hz hq)
  intro hr
  obtain ⟨q, _, hk⟩ := reach_last hr
  obtain ⟨⟨n, hn⟩, h1⟩ := h.kid q w hk
  exact key w (rt_of (h.reach hn h1) (.inl rfl)) hr
theorem first_at1 {f : Fsy} {n : Nod} (h : f.l[0]? = some n) (hn : n.ino = 1) (hr : RiseN f.l) : atF f 1 = some n := by
  have := at_of hr (List.mem_of_getElem? h)
  rwa [hn] at this
theorem drop_at {f : Fsy} {n0 n : Nod} {i : Int} (h0 : f.l[0]? = some n0) (h1 : n0.ino = 1) (hn : atF f i = some n) (hi : ¬ i = 1) : n ∈ f.l.drop 1 := by
  obtain ⟨j, hj⟩ := List.getElem?_of_mem (at_mem hn)
  cases j with
  | zero =>
    rw [h0] at hj
    obtain rfl := Option.some.inj hj
    exact absurd ((at_ino hn).symm.trans h1) hi
  | succ j => exact List.mem_of_getElem? (i := j) (by rw [List.getElem?_drop, Nat.add_comm]; exact hj)
theorem at_drop {f : Fsy} {n0 n : Nod} {i : Int} (hr : RiseN f.l) (h0 : f.l[0]? = some n0) (h1 : n0.ino = 1) (hn : n ∈ f.l.drop 1) : atF f n.ino = some n ∧ ¬ n.ino = 1 := by
  obtain ⟨j, hj⟩ := List.getElem?_of_mem hn
  rw [List.getElem?_drop] at hj
  refine ⟨at_of hr (List.mem_of_getElem? hj), fun e => ?_⟩
  have h := List.pairwise_iff_getElem.1 hr
  have l0 := lt_of_some h0
  have lj := lt_of_some hj
  have g := h 0 (1 + j) l0 lj (by omega)
  have e0 : f.l[0] = n0 := Option.some.inj ((List.getElem?_eq_getElem l0).symm.trans h0)
  have ej : f.l[1 + j] = n := Option.some.inj ((List.getElem?_eq_getElem lj).symm.trans hj)
  rw [e0, ej] at g
  omega
theorem rightT_iff {f : Fsy} : rightT f ↔ TreeP f := by
  constructor
  · rintro ⟨h1, ⟨n0, h2, h3, h4, h5⟩, h6, h7⟩
    have hr := rows_rise h1
    have key : ∀ i n, atF f i = some n → ¬ i = 1 → nodeT f 0 n := fun i n hn hi => by
      obtain ⟨j, hj⟩ := List.getElem?_of_mem (drop_at h2 h3 hn hi)
      exact h7 j n hj
    have h1k : ∀ z, 1 ≤ nam f z → keyT f z := fun z hz => by
      obtain ⟨p, hp, e⟩ := count_key.2 hz
      exact e ▸ h6 p hp
    refine ⟨h1, ⟨n0, first_at1 h2 h3 hr, h4, h5⟩, fun i n hn => ?_, fun i z hz => ?_, fun i n hn hi => (key i n hn hi).1, fun i n hn hk hi => ?_⟩
    · by_cases hi : i = 1
      · subst hi
        rw [first_at1 h2 h3 hr] at hn
        obtain rfl := Option.some.inj hn
        have : ¬ 1 ≤ nam f 1 := fun h => (h1k 1 h).2 rfl
        omega
      · have := (key i n hn hi).2.1
        rw [count_nam, at_ino hn] at this
        exact this
    · have := h1k z ((nam_pos hr).2 ⟨i, hz⟩)
      exact ⟨⟨_, at_some this.1⟩, this.2⟩
    · have := (key i n hn hi).2.2 hk
      rw [at_ino hn] at this
      exact ⟨this.1, reach_iff.1 this.2⟩
  · intro h
    have hr := rows_rise h.rows
    obtain ⟨n0, g1, g2, g3⟩ := h.root
    obtain ⟨m0, hm0⟩ : ∃ m, f.l[0]? = some m := by
      cases hl : f.l with
      | nil => have := at_mem g1; rw [hl] at this; cases this
      | cons x r => exact ⟨x, rfl⟩
    have hm1 : m0 = n0 := by
      obtain ⟨j, hj⟩ := List.getElem?_of_mem (at_mem g1)
      cases j with
      | zero => rw [hm0] at hj; exact Option.some.inj hj
      | succ j =>
        have hp := List.pairwise_iff_getElem.1 hr
        have l0 := lt_of_some hm0
        have lj := lt_of_some hj
        have g := hp 0 (j + 1) l0 lj (by omega)
        have e0 : f.l[0] = m0 := Option.some.inj ((List.getElem?_eq_getElem l0).symm.trans hm0)
        have ej : f.l[j + 1] = n0 := Option.some.inj ((List.getElem?_eq_getElem lj).symm.trans hj)
        rw [e0, ej] at g
        have := at_ino g1
        have := ((rowsP_iff.1 h.rows).2.2.1 m0 (List.mem_of_getElem? hm0)).1.1
        have g' : m0.ino < n0.ino := g
        omega
    subst hm1
    have hi0 : m0.ino = 1 := at_ino g1
    refine ⟨h.rows, ⟨m0, hm0, hi0, g2, g3⟩, fun p hp => ?_, fun j n hj => ?_⟩
    · obtain ⟨i, hi⟩ := (nam_pos hr).1 (count_key.1 ⟨p, hp, rfl⟩)
      obtain ⟨⟨n, hn⟩, h2⟩ := h.kid i p.1 hi
      exact ⟨(at_BN hn).1, h2⟩
    · obtain ⟨a1, a2⟩ := at_drop (i := 0) hr hm0 hi0 (List.mem_of_getElem? hj)
      exact ⟨h.pos _ n a1 a2, by rw [count_nam]; exact h.cnt _ n a1, fun hk => ⟨(h.dir _ n a1 hk a2).1, reach_iff.2 (h.dir _ n a1 hk a2).2⟩⟩
end Go.Proofs.Ytgcjfhgkkgocpaa

set_option linter.unusedVariables false
set_option linter.unusedSimpArgs false
namespace Go.Proofs.Ytgcjfhgkkgocpaa
open Go Go.RowKit Copyhold
theorem below_facts {f : Fsy} (hp : rowsP f) (a b c : Int) : (hasB (reachF f b) a = true → hasB (reachF f c) b = true → hasB (reachF f c) a = true) ∧ (hasB (reachF f c) a = true → 1 ≤ cntG (countF f) a) := by
  refine ⟨fun h1 h2 => reach_iff.2 ((reach_iff.1 h2).trans (reach_iff.1 h1)), fun h => ?_⟩
  obtain ⟨q, _, hq⟩ := reach_last (reach_iff.1 h)
  rw [count_nam]
  exact (nam_pos (rows_rise hp)).2 ⟨q, hq⟩
theorem rights_facts {f : Fsy} {n : Nod} (h : rightT f) (hn : n ∈ f.l) : ((n.ino == 1) = !(hasB (reachF f 1) n.ino)) ∧ (cntG (countF f) n.ino : Int) = n.links ∧ hasB (reachF f n.ino) n.ino = false ∧ (n.links > 0 ∨ n.ino = 1) := by
  have T := rightT_iff.1 h
  have ha := at_of (rows_rise h.1) hn
  refine ⟨?_, by rw [count_nam]; exact (T.cnt _ n ha).symm, ?_, ?_⟩
  · by_cases h1 : n.ino = 1
    · rw [h1]
      have : hasB (reachF f 1) 1 = false := by
        cases hb : hasB (reachF f 1) 1 with
        | false => rfl
        | true => exact absurd (reach_iff.1 hb) T.no1
      rw [this]; rfl
    · have h2 : hasB (reachF f 1) n.ino = true := reach_iff.2 (T.reach ha h1)
      rw [h2]
      simpa using h1
  · cases hb : hasB (reachF f n.ino) n.ino with
    | false => rfl
    | true => exact absurd (reach_iff.1 hb) T.acyc
  · by_cases h1 : n.ino = 1
    · exact .inr h1
    · have := T.pos _ n ha h1
      exact .inl (by omega)
structure Tbw where
  f : Fsy
  a : Int
  b : Int
  c : Int
def tbwA (a : Tbw) : List AV := [.sl 5 false (a.f.l.map nodA), aI a.f.next, aI a.a, aI a.b, aI a.c]
def OkTbw (a : Tbw) : Prop := OkF a.f
set_option maxRecDepth 100000 in
set_option maxHeartbeats 4000000 in
theorem treeBelow_data (f : Fsy) (a b c : Int) (okf : OkF f) : FSpec Try.prog 8 [.agg [.sl 5 false (f.l.map nodA), aI f.next, aI a, aI b, aI c]] (aB true) := by
  exact spec_vc (F := Try.f8) 400 (
 .new fun b1 => .r 1 <| .run 2 [b1 = b1] ⟨rfl, trivial⟩ <|
 .new fun b2 => .run 1 [b2 = b2] ⟨rfl, trivial⟩ <|
 .run 3 [b1 = b1] ⟨rfl, trivial⟩ <|
 .run 3 [b1 = b1] ⟨rfl, trivial⟩ <|
 .run 3 [b1 = b1] ⟨rfl, trivial⟩ <|
 .call (shown_spec) <|
 .r 1 <| .run 1 [b2 = b2] ⟨rfl, trivial⟩ <|
 .call (few_spec f okf) <|
 .r 2 <| .br 24 (!(dP (fewF f))) (fun q1 => have q1 := notT q1; have p1 := booF q1; .r 4 <| .r 2 <| .fin (x := aB true) (r := aB true) [] trivial (by exact Sub.of_eq (by first | rfl | (refine congrArg aB ?_; have h1 := hbf a b c; simp_all; done) | (refine congrArg aB ?_; have h1 := hbf a b c; have h2 := fun h => h1.2 h; simp; omega))))
 <| fun q1 => have q1 := notF q1; have p1 := booT q1; .run 1 [b2 = b2] ⟨rfl, trivial⟩ <|
 .call (rrows_spec f okf) <|
 .r 2 <| .br 28 (!(dP (rowsP f))) (fun q2 => have q2 := notT q2; have p2 := booF q2; .r 2 <| .fin (x := aB true) (r := aB true) [] trivial (by exact Sub.of_eq (by first | rfl | (refine congrArg aB ?_; have h1 := hbf a b c; simp_all; done) | (refine congrArg aB ?_; have h1 := hbf a b c; have h2 := fun h => h1.2 h; simp; omega))))
 <| fun q2 => have q2 := notF q2; have p2 := booT q2; have hp := dP_true.1 q2; have hfl := hp.1; have hbf := below_facts hp; .run 3 [b2 = b2] ⟨rfl, trivial⟩ <|
 .call (below_spec f a b okf (by omega) (rows_rise hp)) <|
 .r 1 <| .run 3 [b2 = b2] ⟨rfl, trivial⟩ <|
 .call (below_spec f b c okf (by omega) (rows_rise hp)) <|
 .r 1 <| .run 3 [b2 = b2] ⟨rfl, trivial⟩ <|
 .call (below_spec f a c okf (by omega) (rows_rise hp)) <|
 .r 1 <| .run 2 [b2 = b2] ⟨rfl, trivial⟩ <|
 .call (tnames_spec f a hp) <|
 .r 1 <| .r 5 <| .br 49 (!(hasB (reachF f b) a)) (fun q3 => have q3 := notT q3; have p3 := booF q3; .r 11 <| .br 60 (!(hasB (reachF f c) a)) (fun q4 => have q4 := notT q4; have p4 := booF q4; .r 9 <| .fin (x := aB (decide ((cntG (countF f) a : Int) ≥ 0))) (r := aB true) [] trivial (by exact Sub.of_eq (by first | rfl | (refine congrArg aB ?_; have h1 := hbf a b c; simp_all; done) | (refine congrArg aB ?_; have h1 := hbf a b c; have h2 := fun h => h1.2 h; simp; omega))))
 <| fun q4 => have q4 := notF q4; have p4 := booT q4; .r 5 <| .is 65 (show (decide ((cntG (countF f) a : Int) ≥ 1)) = true from (decide_eq_true (by have := (hbf a b c).2 q4; omega))) <| .r 4 <| .fin (x := aB (decide ((cntG (countF f) a : Int) ≥ 0))) (r := aB true) [] trivial (by exact Sub.of_eq (by first | rfl | (refine congrArg aB ?_; have h1 := hbf a b c; simp_all; done) | (refine congrArg aB ?_; have h1 := hbf a b c; have h2 := fun h => h1.2 h; simp; omega))))
 <| fun q3 => have q3 := notF q3; have p3 := booT q3; .r 4 <| .br 53 (!(hasB (reachF f c) b)) (fun q5 => have q5 := notT q5; have p5 := booF q5; .r 7 <| .br 60 (!(hasB (reachF f c) a)) (fun q6 => have q6 := notT q6; have p6 := booF q6; .r 9 <| .fin (x := aB (decide ((cntG (countF f) a : Int) ≥ 0))) (r := aB true) [] trivial (by exact Sub.of_eq (by first | rfl | (refine congrArg aB ?_; have h1 := hbf a b c; simp_all; done) | (refine congrArg aB ?_; have h1 := hbf a b c; have h2 := fun h => h1.2 h; simp; omega))))
 <| fun q6 => have q6 := notF q6; have p6 := booT q6; .r 5 <| .is 65 (show (decide ((cntG (countF f) a : Int) ≥ 1)) = true from (decide_eq_true (by have := (hbf a b c).2 q6; omega))) <| .r 4 <| .fin (x := aB (decide ((cntG (countF f) a : Int) ≥ 0))) (r := aB true) [] trivial (by exact Sub.of_eq (by first | rfl | (refine congrArg aB ?_; have h1 := hbf a b c; simp_all; done) | (refine congrArg aB ?_; have h1 := hbf a b c; have h2 := fun h => h1.2 h; simp; omega))))
 <| fun q5 => have q5 := notF q5; have p5 := booT q5; .r 4 <| .is 57 (show (hasB (reachF f c) a) = true from ((hbf a b c).1 q3 q5)) <| .r 3 <| .is 60 (show (!(hasB (reachF f c) a)) = false from (by rw [show (hasB (reachF f c) a) = true from ((hbf a b c).1 q3 q5)]; rfl)) <| .r 5 <| .is 65 (show (decide ((cntG (countF f) a : Int) ≥ 1)) = true from (decide_eq_true (by have := (hbf a b c).2 ((hbf a b c).1 q3 q5); omega))) <| .r 4 <| .fin (x := aB (decide ((cntG (countF f) a : Int) ≥ 0))) (r := aB true) [] trivial (by exact Sub.of_eq (by first | rfl | (refine congrArg aB ?_; have h1 := hbf a b c; simp_all; done) | (refine congrArg aB ?_; have h1 := hbf a b c; have h2 := fun h => h1.2 h; simp; omega)))) Try.func8 rfl (by kernel_rfl) (by kernel_rfl)
theorem treeBelow_spec (a : Tbw) (h : OkTbw a) : FSpec Try.prog 8 [.agg (tbwA a)] (aB true) := treeBelow_data a.f a.a a.b a.c h
set_option maxRecDepth 100000 in
set_option maxHeartbeats 4000000 in
theorem treeRights_spec (f : Fsy) (i : Int) (okf : OkF f) : FSpec Try.prog 6 [.agg [.sl 5 false (f.l.map nodA), aI f.next], aI i] (aB true) := by
  exact spec_vc (F := Try.f6) 400 (
 .new fun b1 => .r 1 <| .call (shown_spec) <|
 .r 1 <| .run 1 [b1 = b1] ⟨rfl, trivial⟩ <|
 .call (few_spec f okf) <|
 .r 2 <| .br 11 (!(dP (fewF f))) (fun q1 => have q1 := notT q1; have p1 := booF q1; .r 15 <| .r 2 <| .fin (x := aB true) (r := aB true) [] trivial (by exact Sub.of_eq (by first | rfl | (refine congrArg aB ?_; have h4 := hrf.2.2.2; simp; omega))))
 <| fun q1 => have q1 := notF q1; have p1 := booT q1; .run 1 [b1 = b1] ⟨rfl, trivial⟩ <|
 .call (right_spec_t f okf) <|
 .r 3 <| .br 16 (!(dP (rightT f))) (fun q2 => have q2 := notT q2; have p2 := booF q2; .r 10 <| .r 2 <| .fin (x := aB true) (r := aB true) [] trivial (by exact Sub.of_eq (by first | rfl | (refine congrArg aB ?_; have h4 := hrf.2.2.2; simp; omega))))
 <| fun q2 => have q2 := notF q2; have p2 := booT q2; have hrt := dP_true.1 q2; have hp := hrt.1; have hfl := hp.1; .r 4 <| .br 20 (decide (i < 0)) (fun q3 => have p3 := decT q3; .r 6 <| .r 2 <| .fin (x := aB true) (r := aB true) [] trivial (by exact Sub.of_eq (by first | rfl | (refine congrArg aB ?_; have h4 := hrf.2.2.2; simp; omega))))
 <| fun q3 => have p3 := decF q3; .run 4 [b1 = b1] ⟨rfl, trivial⟩ <|
 .val 24 (show (aI ((f.l.map nodA).length : Int) : AV) = aI (f.l.length : Int) from by rw [List.length_map]) <| .r 2 <| .br 26 (decide (i ≥ (f.l.length : Int))) (fun q4 => have p4 := decT q4; .r 2 <| .fin (x := aB true) (r := aB true) [] trivial (by exact Sub.of_eq (by first | rfl | (refine congrArg aB ?_; have h4 := hrf.2.2.2; simp; omega))))
 <| fun q4 => have p4 := decF q4; .run 3 [b1 = b1] ⟨rfl, trivial⟩ <|
 .idxM f.l nodA i.toNat (m := i) (by omega) (by omega) fun x1 hx1 =>
 have hrf := rights_facts hrt (List.mem_of_getElem? hx1); .r 1 <| .new fun b2 => .run 1 [b2 = b2] ⟨rfl, trivial⟩ <|
 .ord [0, 1, 2, 3, 4, 5, 6, 7, 8, 9, 10, 11, 12, 13, 14, 15, 17, 18, 16, 19, 20, 21, 22, 23, 24, 25, 26, 27, 28, 29, 30, 31, 32, 33, 34, 35, 36, 37, 38, 39, 40] <| .run 8 [b2 = b2, b1 = b1, b2 = b2] ⟨rfl, rfl, rfl, trivial⟩ <|
 .call (below_spec f x1.ino 1 okf (by omega) (rows_rise hp)) <|
 .r 4 <| .is 45 (show ((x1.ino == 1) == (!(hasB (reachF f 1) x1.ino))) = true from (by rw [hrf.1]; simp)) <| .run 5 [b1 = b1, b2 = b2, b2 = b2] ⟨rfl, rfl, rfl, trivial⟩ <|
 .call (tnames_spec f x1.ino hp) <|
 .r 3 <| .is 54 (show ((cntG (countF f) x1.ino : Int) == x1.links) = true from (by rw [hrf.2.1]; simp)) <| .run 5 [b1 = b1, b2 = b2, b2 = b2] ⟨rfl, rfl, rfl, trivial⟩ <|
 .call (below_spec f x1.ino x1.ino okf (by omega) (rows_rise hp)) <|
 .r 3 <| .is 63 (show (!(hasB (reachF f x1.ino) x1.ino)) = true from (by rw [show (hasB (reachF f x1.ino) x1.ino) = false from hrf.2.2.1]; rfl)) <| .run 4 [b2 = b2] ⟨rfl, trivial⟩ <|
 .br 67 (decide (x1.links > 0)) (fun q5 => have p5 := decT q5; .r 6 <| .fin (x := aB true) (r := aB true) [] trivial (by exact Sub.of_eq (by first | rfl | (refine congrArg aB ?_; have h4 := hrf.2.2.2; simp; omega))))
 <| fun q5 => have p5 := decF q5; .run 6 [b2 = b2] ⟨rfl, trivial⟩ <|
 .fin (x := aB (x1.ino == 1)) (r := aB true) [] trivial (by exact Sub.of_eq (by first | rfl | (refine congrArg aB ?_; have h4 := hrf.2.2.2; simp; omega)))) Try.func6 rfl (by kernel_rfl) (by kernel_rfl)
end Go.Proofs.Ytgcjfhgkkgocpaa
