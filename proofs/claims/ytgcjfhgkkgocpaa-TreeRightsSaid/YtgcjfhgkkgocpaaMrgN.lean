/- tree.count, tree.Names. A range over a map that is data, over abstract states: the iterator, its next entry, whichever the tape says, the entry at hand. Over any program. -/
import Derived.Test.YtgcjfhgkkgocpaaMrgM
import Derived.Test.YtgcjfhgkkgocpaaMrgL
import Derived.Laws.IdiomRangeMap
set_option linter.unusedVariables false
set_option linter.unusedSimpArgs false
namespace Go.Proofs.Ytgcjfhgkkgocpaa
open Go Go.RowKit Copyhold
def cntI : List (Int × Nat) → Int → List (Int × Nat)
  | [], z => [(z, 1)]
  | p :: r, z => if p.1 = z then (p.1, p.2 + 1) :: r else p :: cntI r z
def cntG : List (Int × Nat) → Int → Nat
  | [], _ => 0
  | p :: r, z => if p.1 = z then p.2 else cntG r z
def cntT (L : List (Int × Nat)) : Nat := (L.map (·.2)).sum
def cntM (L : List (Int × Nat)) : List (MK × AV) := L.map fun p => (MK.i p.1, aI (p.2 : Int))
theorem cntM_keys (L : List (Int × Nat)) : ∀ p ∈ cntM L, ∃ z, p.1 = .i z := fun p hp => by
  obtain ⟨z, _, rfl⟩ := List.mem_map.1 hp
  exact ⟨z.1, rfl⟩
theorem cntG_le : ∀ (L : List (Int × Nat)) (z : Int), cntG L z ≤ cntT L
  | [], _ => Nat.zero_le _
  | p :: r, z => by
    have := cntG_le r z
    unfold cntG cntT
    simp only [List.map_cons, List.sum_cons]
    unfold cntT at this
    split <;> omega
theorem cntI_T : ∀ (L : List (Int × Nat)) (z : Int), cntT (cntI L z) = cntT L + 1
  | [], z => rfl
  | p :: r, z => by
    have := cntI_T r z
    unfold cntI
    unfold cntT at *
    split
    · simp only [List.map_cons, List.sum_cons]; omega
    · simp only [List.map_cons, List.sum_cons]; omega
theorem cntI_G : ∀ (L : List (Int × Nat)) (y z : Int), cntG (cntI L y) z = cntG L z + if y = z then 1 else 0
  | [], y, z => by
    unfold cntI cntG
    split <;> simp_all [cntG]
  | p :: r, y, z => by
    have ih := cntI_G r y z
    unfold cntI
    split
    · rename_i h
      subst h
      simp only [cntG]
      split <;> simp_all
    · rename_i h
      simp only [cntG]
      split
      · rename_i h2
        have : ¬ y = z := fun e => h (h2.trans e.symm)
        simp [this]
      · exact ih
theorem cntM_find : ∀ (L : List (Int × Nat)) (z : Int) (i : Nat),
    (mfind (.i z) (cntM L) i = none → cntG L z = 0 ∧ cntM (cntI L z) = cntM L ++ [(.i z, aI 1)]) ∧
    ∀ j x, mfind (.i z) (cntM L) i = some (j, x) → i ≤ j ∧ x = aI (cntG L z : Int) ∧ cntM (cntI L z) = (cntM L).set (j - i) (.i z, aI ((cntG L z : Int) + 1))
  | [], z, i => ⟨fun _ => ⟨rfl, rfl⟩, fun j x h => by cases h⟩
  | p :: r, z, i => by
    obtain ⟨g1, g2⟩ := cntM_find r z (i + 1)
    show (mfind (.i z) ((MK.i p.1, aI (p.2 : Int)) :: cntM r) i = none → _) ∧ ∀ j x, mfind (.i z) ((MK.i p.1, aI (p.2 : Int)) :: cntM r) i = some (j, x) → _
    unfold mfind
    by_cases hp : p.1 = z
    · subst hp
      simp only [if_true]
      refine ⟨fun h => (by cases h), fun j x h => ?_⟩
      simp only [Option.some.injEq, Prod.mk.injEq] at h
      obtain ⟨rfl, rfl⟩ := h
      refine ⟨Nat.le_refl _, by simp [cntG], ?_⟩
      simp [cntI, cntM, cntG]
    · rw [if_neg (fun e => hp (by injection e))]
      refine ⟨fun h => ?_, fun j x h => ?_⟩
      · obtain ⟨h1, h2⟩ := g1 h
        refine ⟨by simp [cntG, hp, h1], ?_⟩
        unfold cntI
        rw [if_neg hp]
        show (MK.i p.1, aI (p.2 : Int)) :: cntM (cntI r z) = _
        rw [h2]; rfl
      · obtain ⟨h1, h2, h3⟩ := g2 j x h
        refine ⟨by omega, by simp [cntG, hp, h2], ?_⟩
        unfold cntI
        rw [if_neg hp]
        show (MK.i p.1, aI (p.2 : Int)) :: cntM (cntI r z) = ((MK.i p.1, aI (p.2 : Int)) :: cntM r).set (j - i) _
        rw [h3, show j - i = (j - (i + 1)) + 1 from by omega, List.set_cons_succ, show cntG (p :: r) z = cntG r z from by simp [cntG, hp]]
theorem cntM_look (L : List (Int × Nat)) (z : Int) : lkS false (mfind (.i z) (cntM L) 0) (.int .i64 0) (aI (cntG L z : Int)) := by
  obtain ⟨h1, h2⟩ := cntM_find L z 0
  unfold lkS lkRes
  rw [if_neg (by decide)]
  cases hm : mfind (.i z) (cntM L) 0 with
  | none => rw [(h1 hm).1]; exact Sub.refl _
  | some p =>
    obtain ⟨j, x⟩ := p
    obtain ⟨_, e, _⟩ := h2 j x hm
    rw [e]; exact Sub.refl _
theorem cntM_put (L : List (Int × Nat)) (z : Int) : mput (cntM L) (.i z) (aI ((cntG L z : Int) + 1)) = cntM (cntI L z) := by
  obtain ⟨h1, h2⟩ := cntM_find L z 0
  unfold mput
  cases hm : mfind (.i z) (cntM L) 0 with
  | none => obtain ⟨e1, e2⟩ := h1 hm; rw [e1]; exact e2.symm
  | some p =>
    obtain ⟨j, x⟩ := p
    obtain ⟨_, _, e⟩ := h2 j x hm
    exact e.symm
def cntEs (L : List (Int × Nat)) (l : List Ent) : List (Int × Nat) := l.foldl (fun L e => cntI L e.ino) L
def cntNs (L : List (Int × Nat)) (l : List Nod) : List (Int × Nat) := l.foldl (fun L n => if n.kind = 2 then cntEs L n.l else L) L
def countF (f : Fsy) : List (Int × Nat) := cntNs [] f.l
theorem cntEs_step {L : List (Int × Nat)} {l : List Ent} {j : Nat} {x : Ent} (h : l[j]? = some x) : cntEs L (l.take (j + 1)) = cntI (cntEs L (l.take j)) x.ino := by
  unfold cntEs
  rw [take_step h, List.foldl_append]; rfl
theorem cntNs_yes {L : List (Int × Nat)} {l : List Nod} {j : Nat} {x : Nod} (h : l[j]? = some x) (hk : x.kind = 2) : cntNs L (l.take (j + 1)) = cntEs (cntNs L (l.take j)) x.l := by
  unfold cntNs
  rw [take_step h, List.foldl_append, List.foldl_cons, List.foldl_nil, if_pos hk]
theorem cntNs_no {L : List (Int × Nat)} {l : List Nod} {j : Nat} {x : Nod} (h : l[j]? = some x) (hk : ¬ x.kind = 2) : cntNs L (l.take (j + 1)) = cntNs L (l.take j) := by
  unfold cntNs
  rw [take_step h, List.foldl_append, List.foldl_cons, List.foldl_nil, if_neg hk]
theorem node_len {n : Nod} (h : nodP n) : n.l.length ≤ 256 := by
  rcases h.2.2.2 with ⟨_, _, h⟩ | ⟨_, _, h⟩
  · exact h.1
  · rw [h]; decide
theorem rows_len {f : Fsy} (h : rowsP f) {n : Nod} (hn : n ∈ f.l) : n.l.length ≤ 256 := node_len ((rowsP_iff.1 h).2.2.1 n hn).1
set_option maxRecDepth 100000 in
set_option maxHeartbeats 4000000 in
theorem count_spec0 (f : Fsy) (hp : rowsP f) : FSpec Try.prog 42 [.agg [.sl 5 false (f.l.map nodA), aI f.next]] (.mp (cntM (cntNs [] (f.l.take f.l.length)))) := by
  have hfl := hp.1
  exact spec_vc (F := Try.f42) 400 (
 .new fun b1 => .r 1 <| .mkMap fun r2 => .r 1 <| .run 3 [b1 = b1] ⟨rfl, trivial⟩ <|
 .val 11 (show (aI ((f.l.map nodA).length : Int) : AV) = aI (f.l.length : Int) from by rw [List.length_map]) <| .r 1 <| let L1 : Lp (Nat) := ⟨fun a1 => ⟨[(3, .mref 8 r2), (10, .sl 5 false (f.l.map nodA)), (11, aI (f.l.length : Int)), (12, aI (a1 : Int))], [(8, .mp r2 (cntM (cntNs [] (f.l.take a1))))]⟩, fun a1 => f.l.length - a1, fun a1 => a1 ≤ f.l.length ∧ cntT (cntNs [] (f.l.take a1)) ≤ 256 * a1⟩
 .loop L1 0 (show 0 ≤ f.l.length ∧ cntT (cntNs [] (f.l.take 0)) ≤ 256 * 0 from ⟨Nat.zero_le _, Nat.le_refl _⟩) ⟨[(3, .mref 8 r2), (10, .sl 5 false (f.l.map nodA)), (11, aI (f.l.length : Int)), (12, aI 0)], [(8, .mp r2 [])]⟩ ⟨Sub.refl _, Sub.refl _, Sub.refl _, Sub.of_eq (congrArg aI (by first | omega | rfl)), trivial⟩ ⟨⟨_, rfl, SubB.of_eq rfl⟩, trivial⟩ fun a1 ha1 =>
 (fun (k : Nat) (hH1 : k ≤ f.l.length ∧ cntT (cntNs [] (f.l.take k)) ≤ 256 * k) => .r 1 <| .br 13 (decide ((k : Int) < (f.l.length : Int))) (fun q1 => have p1 := decT q1; .idxM f.l nodA k (m := (k : Int)) rfl (by omega) fun x1 hx1 =>
 have blx1 := rows_len hp (List.mem_of_getElem? hx1); .r 1 <| .new fun b3 => .run 1 [b3 = b3] ⟨rfl, trivial⟩ <|
 .run 3 [b3 = b3] ⟨rfl, trivial⟩ <|
 .br 18 (x1.kind != 2) (fun q2 => have p2 := bneT q2; .run 2 [rng .i64 ((k : Int) + 1)] ⟨rng64 (by omega) (by omega), trivial⟩ <|
 .back L1 k (k + 1) (show (k + 1) ≤ f.l.length ∧ cntT (cntNs [] (f.l.take (k + 1))) ≤ 256 * (k + 1) from ⟨by omega, by rw [cntNs_no hx1 (by assumption)]; omega⟩) (show f.l.length - (k + 1) < f.l.length - k from (by omega)) ⟨[(3, .mref 8 r2), (10, .sl 5 false (f.l.map nodA)), (11, aI (f.l.length : Int)), (12, aI ((k : Int) + 1))], [(8, .mp r2 (cntM (cntNs [] (f.l.take k))))]⟩ ⟨Sub.refl _, Sub.refl _, Sub.refl _, Sub.of_eq (congrArg aI (by first | omega | rfl)), trivial⟩ ⟨⟨_, rfl, SubB.of_eq (by rw [cntNs_no hx1 (by assumption)])⟩, trivial⟩)
 <| fun q2 => have p2 := bneF q2; .run 3 [b3 = b3] ⟨rfl, trivial⟩ <|
 .val 21 (show (aI ((x1.l.map entA).length : Int) : AV) = aI (x1.l.length : Int) from by rw [List.length_map]) <| .r 1 <| let L2 : Lp (Nat) := ⟨fun a2 => ⟨[(3, .mref 8 r2), (10, .sl 5 false (f.l.map nodA)), (11, aI (f.l.length : Int)), (12, aI (k : Int)), (20, .sl 2 false (x1.l.map entA)), (21, aI (x1.l.length : Int)), (22, aI (a2 : Int))], [(8, .mp r2 (cntM (cntEs (cntNs [] (f.l.take k)) (x1.l.take a2))))]⟩, fun a2 => x1.l.length - a2, fun a2 => a2 ≤ x1.l.length ∧ cntT (cntEs (cntNs [] (f.l.take k)) (x1.l.take a2)) ≤ 256 * k + a2⟩
 .loop L2 0 (show 0 ≤ x1.l.length ∧ cntT (cntEs (cntNs [] (f.l.take k)) (x1.l.take 0)) ≤ 256 * k + 0 from ⟨Nat.zero_le _, hH1.2⟩) ⟨[(3, .mref 8 r2), (10, .sl 5 false (f.l.map nodA)), (11, aI (f.l.length : Int)), (12, aI (k : Int)), (20, .sl 2 false (x1.l.map entA)), (21, aI (x1.l.length : Int)), (22, aI 0)], [(8, .mp r2 (cntM (cntNs [] (f.l.take k))))]⟩ ⟨Sub.refl _, Sub.refl _, Sub.refl _, Sub.refl _, Sub.refl _, Sub.refl _, Sub.of_eq (congrArg aI (by first | omega | rfl)), trivial⟩ ⟨⟨_, rfl, SubB.of_eq rfl⟩, trivial⟩ fun a2 ha2 =>
 (fun (j : Nat) (hH2 : j ≤ x1.l.length ∧ cntT (cntEs (cntNs [] (f.l.take k)) (x1.l.take j)) ≤ 256 * k + j) => .r 1 <| .br 23 (decide ((j : Int) < (x1.l.length : Int))) (fun q3 => have p3 := decT q3; .idxM x1.l entA j (m := (j : Int)) rfl (by omega) fun x2 hx2 =>
 .r 1 <| .new fun b4 => .run 1 [b4 = b4] ⟨rfl, trivial⟩ <|
 .run 3 [b4 = b4] ⟨rfl, trivial⟩ <|
 .op (lkRB Try.prog) ((3, some (.int .i64 0)), (8, r2, r2, cntM (cntEs (cntNs [] (f.l.take k)) (x1.l.take j))), .i x2.ino, false, some 29) (fun (_ : Unit) σ => σ.put (some 29) (aI (cntG (cntEs (cntNs [] (f.l.take k)) (x1.l.take j)) x2.ino : Int))) (rule_lookB (mfind (.i x2.ino) (cntM (cntEs (cntNs [] (f.l.take k)) (x1.l.take j))) 0) (keys_i (by kernel_rfl) _ (cntM_keys (cntEs (cntNs [] (f.l.take k)) (x1.l.take j)))) (by kernel_rfl) rfl (cntM_look (cntEs (cntNs [] (f.l.take k)) (x1.l.take j)) x2.ino)) fun _ =>
 have hcg := cntG_le (cntEs (cntNs [] (f.l.take k)) (x1.l.take j)) x2.ino; .run 1 [rng .i64 ((cntG (cntEs (cntNs [] (f.l.take k)) (x1.l.take j)) x2.ino : Int) + 1)] ⟨rng64 (by omega) (by omega), trivial⟩ <|
 .op (insR Try.prog) (3, (8, r2, r2, cntM (cntEs (cntNs [] (f.l.take k)) (x1.l.take j))), .i x2.ino, aI ((cntG (cntEs (cntNs [] (f.l.take k)) (x1.l.take j)) x2.ino : Int) + 1)) (fun (_ : Unit) σ => σ.setB 8 (.mp r2 (cntM (cntI (cntEs (cntNs [] (f.l.take k)) (x1.l.take j)) x2.ino)))) (rule_putG (keys_i (by kernel_rfl) _ (cntM_keys (cntEs (cntNs [] (f.l.take k)) (x1.l.take j)))) (by kernel_rfl) (cntM_put (cntEs (cntNs [] (f.l.take k)) (x1.l.take j)) x2.ino)) fun _ =>
 .run 2 [rng .i64 ((j : Int) + 1)] ⟨rng64 (by omega) (by omega), trivial⟩ <|
 .back L2 j (j + 1) (show (j + 1) ≤ x1.l.length ∧ cntT (cntEs (cntNs [] (f.l.take k)) (x1.l.take (j + 1))) ≤ 256 * k + (j + 1) from ⟨by omega, by rw [cntEs_step hx2, cntI_T]; omega⟩) (show x1.l.length - (j + 1) < x1.l.length - j from (by omega)) ⟨[(3, .mref 8 r2), (10, .sl 5 false (f.l.map nodA)), (11, aI (f.l.length : Int)), (12, aI (k : Int)), (20, .sl 2 false (x1.l.map entA)), (21, aI (x1.l.length : Int)), (22, aI ((j : Int) + 1))], [(8, .mp r2 (cntM (cntI (cntEs (cntNs [] (f.l.take k)) (x1.l.take j)) x2.ino)))]⟩ ⟨Sub.refl _, Sub.refl _, Sub.refl _, Sub.refl _, Sub.refl _, Sub.refl _, Sub.of_eq (congrArg aI (by first | omega | rfl)), trivial⟩ ⟨⟨_, rfl, SubB.of_eq (by rw [cntEs_step hx2])⟩, trivial⟩)
 <| fun q3 => have p3 := decF q3; .run 2 [rng .i64 ((k : Int) + 1)] ⟨rng64 (by omega) (by omega), trivial⟩ <|
 .back L1 k (k + 1) (show (k + 1) ≤ f.l.length ∧ cntT (cntNs [] (f.l.take (k + 1))) ≤ 256 * (k + 1) from ⟨by omega, by rw [show cntNs [] (f.l.take (k + 1)) = cntEs (cntNs [] (f.l.take k)) (x1.l.take j) from (by rw [cntNs_yes hx1 (by assumption), take_all (show x1.l.length ≤ j from by omega)])]; omega⟩) (show f.l.length - (k + 1) < f.l.length - k from (by omega)) ⟨[(3, .mref 8 r2), (10, .sl 5 false (f.l.map nodA)), (11, aI (f.l.length : Int)), (12, aI ((k : Int) + 1))], [(8, .mp r2 (cntM (cntEs (cntNs [] (f.l.take k)) (x1.l.take j))))]⟩ ⟨Sub.refl _, Sub.refl _, Sub.refl _, Sub.of_eq (congrArg aI (by first | omega | rfl)), trivial⟩ ⟨⟨_, rfl, SubB.of_eq (by rw [show cntNs [] (f.l.take (k + 1)) = cntEs (cntNs [] (f.l.take k)) (x1.l.take j) from (by rw [cntNs_yes hx1 (by assumption), take_all (show x1.l.length ≤ j from by omega)])])⟩, trivial⟩) a2 ha2)
 <| fun q1 => have p1 := decF q1; .r 2 <| .frz 8 [2] [] [r2 = r2] ⟨rfl, trivial⟩ <|
 .fin (x := .mp (cntM (cntNs [] (f.l.take k)))) (r := .mp (cntM (cntNs [] (f.l.take f.l.length)))) [] trivial (by exact Sub.of_eq (by rw [show k = f.l.length from by omega]))) a1 ha1) Try.func42 rfl (by kernel_rfl) (by kernel_rfl)
theorem count_spec (f : Fsy) (hp : rowsP f) : FSpec Try.prog 42 [.agg [.sl 5 false (f.l.map nodA), aI f.next]] (.mp (cntM (countF f))) := by
  have h := count_spec0 f hp
  rw [take_all (Nat.le_refl _)] at h
  exact h
set_option maxRecDepth 100000 in
set_option maxHeartbeats 4000000 in
theorem tnames_spec (f : Fsy) (i : Int) (hp : rowsP f) : FSpec Try.prog 25 [.agg [.sl 5 false (f.l.map nodA), aI f.next], aI i] (aI (cntG (countF f) i : Int)) := by
  exact spec_vc (F := Try.f25) 400 (
 .new fun b1 => .r 1 <| .run 1 [b1 = b1] ⟨rfl, trivial⟩ <|
 .call (count_spec f hp) <|
 .r 1 <| .op (lkRO Try.prog) ((3, some (.int .i64 0)), cntM (countF f), .i i, false, some 8) (fun (_ : Unit) σ => σ.put (some 8) (aI (cntG (countF f) i : Int))) (rule_lookO (mfind (.i i) (cntM (countF f)) 0) (keys_i (by kernel_rfl) _ (cntM_keys (countF f))) (by kernel_rfl) rfl (cntM_look (countF f) i)) fun _ =>
 have hcg := cntG_le (countF f) i; .r 1 <| .fin (x := aI (cntG (countF f) i : Int)) (r := aI (cntG (countF f) i : Int)) [] trivial (by exact Sub.refl _)) Try.func25 rfl (by kernel_rfl) (by kernel_rfl)
end Go.Proofs.Ytgcjfhgkkgocpaa

set_option linter.unusedVariables false
set_option linter.unusedSimpArgs false
namespace Go.Proofs.Ytgcjfhgkkgocpaa
open Go Go.RowKit Copyhold
def nav : List Nat → Code → Code
  | 0 :: r, .seq x _ => nav r x
  | 1 :: r, .seq _ y => nav r y
  | 2 :: r, .block _ x => nav r x
  | 2 :: r, .loop x => nav r x
  | 2 :: r, .scope x => nav r x
  | 3 :: r, .cond _ x _ => nav r x
  | 4 :: r, .cond _ _ y => nav r y
  | _, c => c
def rngR (m it : Nat) (s : LS) : Option (List (MK × AV)) :=
  match lget s.tm m, bget s.bx it with
  | .mp es, none => some es
  | _, _ => none
theorem rule_rngO {P : Program} {nt m x it id7 ty : Nat} {o0 o1 : Oper} {code rest : Code} {kt et : TypeId} {es : List (MK × AV)} (hc : code = .seq (.region id7 #[o0, o1] false) rest)
    (h0 : o0.op = .move (.tmp m) ∧ o0.dst = some x ∧ o0.guard = none) (h1 : o1.op = .range ty (.tmp x) ∧ o1.dst = some it ∧ o1.guard = none) (hu : P.underlying ty = some (.map kt et)) (hn : m < nt ∧ x < nt ∧ it < nt) :
    ∀ (c : Cx) (Q : Exit → FS → Prop) (s : LS), c.n = nt → P.follows .mixedOrders = true → rngR m it s = some es → (∀ b : Nat, AWp c P rest Q (((s.put (some x) .any).put (some it) (.ptr it b 0)).setB it (.iter b es [])).fs) → AWp c P code Q s.fs := by
  subst hc
  intro c Q s hcn hm hrd kk a w hr
  obtain ⟨hcb, D, hR⟩ := hr
  obtain ⟨n1, n2, n3⟩ := hn
  unfold rngR at hrd
  split at hrd
  · rename_i es0 hmp hbx
    obtain rfl := Option.some.inj hrd
    have hv := hR.ev (.tmp m) (fun t' e => by cases e; rw [hcn]; exact n1)
    have hev : s.fs.ev (.tmp m) = .mp es0 := hmp
    rw [hev] at hv
    have hsz : a.tmps.size = nt := hR.size.trans hcn
    generalize hva : a.eval (.tmp m) = v at hv
    cases hv with
    | mp es r es' clock hDr hlt hhp hlen hkeys hvals =>
      refine wp_seq (wp_region ?_)
      show wpOps P #[o0, o1] _ [0, 1] a w
      refine wpOps_val (o := o0) rfl h0.2.2 (v := .map (some r)) (w' := w) (by simp [execOp, h0.1, hva]) ?_
      rw [h0.2.1]
      have he1 := eval_put (a := a) (d := x) (v := .map (some r)) (by omega)
      have hs1 := size_put a (some x) (.map (some r))
      refine wpOps_val (o := o1) rfl h1.2.2 (v := .pointer (some ⟨w.heap.size, 0, none⟩)) (w' := w.alloc (.mapIter (some r) clock #[] clock)) (by
        simp [execOp, h1.1, he1, Instr.range, run_underlying hu, getObj, Sem.run, hhp, newObj]) ?_
      rw [h1.2.1]
      generalize ha1 : a.put (some x) (.map (some r)) = a1 at he1 hs1
      have hD1 : RelD c D (s.put (some x) .any).fs a1 w := by
        rw [← LS.fs_put, ← ha1]; exact hR.put _ (.any _)
      obtain ⟨w2, hw2⟩ : ∃ w2, w2 = w.alloc (.mapIter (some r) clock #[] clock) := ⟨_, rfl⟩
      have hb2 : Below w.heap.size w w2 := hw2 ▸ (Below.refl _ _).alloc (Nat.le_refl _) _
      have hit : w2.heap[w.heap.size]? = some (.mapIter (some r) clock #[] clock) := hw2 ▸ heap_alloc_new w _
      have hmap : w2.heap[r]? = some (.map es' clock) := (hb2.block r hlt).trans hhp
      rw [← hw2]
      have hbx' : (s.put (some x) .any).fs.bx it = none := hbx
      have h := hD1.grow (D' := D) hcb hb2 (fun _ h => h) (fun b h => ⟨Nat.lt_of_lt_of_le (hR.dlt b h) hb2.size, .inl h⟩) (some (it, .iter w.heap.size es0 [])) (fun id y h => by
        simp only [Option.some.injEq, Prod.mk.injEq] at h
        obtain ⟨rfl, rfl⟩ := h
        refine ⟨hbx', fun g hg => ?_, r, es', clock, #[], hit, hDr, Nat.lt_of_lt_of_le hlt hb2.size, hmap, hlen, hkeys, fun j p e hp he => (hvals j p e hp he).frame (fun _ h => h) hb2.size (fun b _ hl => hb2.block b hl), fun j e he => by simp, fun j hj => by simp at hj⟩
        obtain rfl := Option.some.inj hg
        exact ⟨Nat.le_refl _, fun hd => Nat.lt_irrefl _ (hR.dlt _ hd)⟩)
      have h2 := h.put (some it) (x := .ptr it w.heap.size 0) (v := .pointer (some ⟨w.heap.size, 0, none⟩)) (.ptr _ _ _)
      refine kk w.heap.size _ _ ⟨Nat.le_trans hcb hb2.size, D, ?_⟩
      rw [← LS.fs_setB, ← LS.fs_put]
      exact h2
  · cases hrd
def nxtP (es : List (MK × AV)) (seen : List Nat) : Option Nat → Prop
  | none => ∀ j, j < es.length → j ∈ seen
  | some j => j < es.length ∧ j ∉ seen
def nxtS (seen : List Nat) : Option Nat → List Nat
  | none => seen
  | some j => j :: seen
def nxtR (it : Nat) (s : LS) : Option (Nat × Nat × List (MK × AV) × List Nat) :=
  match lget s.tm it with
  | .ptr id b' 0 =>
    (match bget s.bx id with
    | some (.iter b es seen) => some (b', b, es, seen)
    | _ => none)
  | _ => none
theorem next_run {P : Program} {w : World} {b r clock ty : Nat} {es : Array MapEntry} {sn : Array Nat} (hb : w.heap[b]? = some (.mapIter (some r) clock sn clock)) (hr : w.heap[r]? = some (.map es clock)) (hB : Born es clock) :
    ((∀ e ∈ es.toList, sn.contains e.born = true) ∧ (Instr.next (.pointer (some ⟨b, 0, none⟩)) false ty).run P w = .ok (.tuple #[.bool false]) w) ∨
    ∃ e ∈ es.toList, sn.contains e.born = false ∧ ∃ w1, (w1 = w ∨ w1 = { w with drawn := w.drawn + 1 }) ∧ (Instr.next (.pointer (some ⟨b, 0, none⟩)) false ty).run P w = .ok (.tuple #[.bool true, e.key, e.val]) { w1 with heap := w1.heap.setIfInBounds b (.mapIter (some r) clock (sn.push e.born) clock) } := by
  simp only [Instr.next, getObj, Sem.run_bind, Sem.run, hb, hr, Result.andThen, next_test_false sn es clock clock hB.1 (Nat.le_refl _), Bool.false_eq_true, if_false]
  have hmem : ∀ x ∈ (Array.filter (fun e => !sn.contains e.born) es).toList, x.born < clock ∧ x ∈ es.toList ∧ sn.contains x.born = false := fun x hx => by
    simp at hx
    exact ⟨hB.1 x (by simpa using hx.1), by simpa using hx.1, by simpa using hx.2⟩
  have hall : (Array.filter (fun e => !sn.contains e.born) es).size = 0 → ∀ e ∈ es.toList, sn.contains e.born = true := fun h0 e he => by
    cases hc : sn.contains e.born with
    | true => rfl
    | false =>
      have : e ∈ Array.filter (fun e => !sn.contains e.born) es := Array.mem_filter.2 ⟨by simpa using he, by rw [hc]; rfl⟩
      rw [Array.eq_empty_of_size_eq_zero h0] at this
      simp at this
  generalize Array.filter (fun e => !sn.contains e.born) es = L at hmem hall ⊢
  have e1 : L.filter (fun x => decide (x.born < clock)) = L := Array.filter_eq_self.2 (fun x hx => by simpa using (hmem x (by simpa using hx)).1)
  have e2 : L.filter (fun x => decide (x.born ≥ clock)) = #[] := by
    rw [Array.filter_eq_empty_iff]
    intro x hx
    have := (hmem x (by simpa using hx)).1
    simp
    omega
  simp only [e1, e2, Array.append_empty]
  by_cases h0 : L.size = 0
  · left
    refine ⟨hall h0, ?_⟩
    have : L = #[] := Array.eq_empty_of_size_eq_zero h0
    subst this
    simp [choose, Sem.run, Question.forced]
  · right
    have hne : L.isEmpty = false := by simp [Array.isEmpty, h0]
    simp only [hne, Bool.false_eq_true, if_false, Array.empty_append, Array.size_map]
    have hch : ∃ (j : Nat) (w1 : World), j < L.size ∧ (w1 = w ∨ w1 = { w with drawn := w.drawn + 1 }) ∧ (choose (Question.mapNext L.size)).run P w = .ok j w1 := by
      by_cases hf : L.size ≤ 1
      · exact ⟨0, w, by omega, .inl rfl, by simp [choose, Sem.run, Question.forced, hf]⟩
      · exact ⟨_, { w with drawn := w.drawn + 1 }, Nat.mod_lt _ (by omega), .inr rfl, by
          simp only [choose, Sem.run, Question.forced, decide_eq_true_eq, hf, if_false, Question.cut]
          rfl⟩
    obtain ⟨j, w1, hj, hal, hrun⟩ := hch
    have hw1 : w1.heap[b]? = some (.mapIter (some r) clock sn clock) := by rcases hal with rfl | rfl <;> exact hb
    refine ⟨L[j], (hmem _ (by simp)).2.1, (hmem _ (by simp)).2.2, w1, hal, ?_⟩
    simp only [hrun, Array.getElem?_map, Array.getElem?_eq_getElem hj, Option.map_some, Sem.run_bind, setObj, Sem.run, hw1, Result.andThen]
    rfl
theorem rule_next {P : Program} {nt it nx t id8 b : Nat} {o2 o3 : Oper} {code rest : Code} {es : List (MK × AV)} {seen : List Nat} (id : Nat) (hc : code = .seq (.region id8 #[o2, o3] false) rest)
    (h2 : o2.op = .next (.tmp it) false ∧ o2.dst = some nx ∧ o2.guard = none) (h3 : o3.op = .extract (.tmp nx) 0 ∧ o3.dst = some t ∧ o3.guard = none) (hn : it < nt ∧ nx < nt ∧ t < nt) :
    ∀ (c : Cx) (Q : Exit → FS → Prop) (s : LS), c.n = nt → P.follows .mixedOrders = true → ((nxtR it s).map fun x => (x, lget s.tm it)) = some ((b, b, es, seen), .ptr id b 0) →
      (∀ a : { a : Option Nat // nxtP es seen a }, AWp c P rest Q (((s.put (some nx) .any).put (some t) (aB a.1.isSome)).setB id (.iter b es (nxtS seen a.1))).fs) → AWp c P code Q s.fs := by
  subst hc
  intro c Q s hcn hm hrd kk a w hr
  obtain ⟨hcb, D, hR⟩ := hr
  obtain ⟨n1, n2, n3⟩ := hn
  cases hq : nxtR it s with
  | none => rw [hq] at hrd; cases hrd
  | some y =>
  rw [hq] at hrd
  simp only [Option.map_some, Option.some.injEq, Prod.mk.injEq] at hrd
  obtain ⟨rfl, ht⟩ := hrd
  unfold nxtR at hq
  rw [ht] at hq
  simp only at hq
  split at hq
  · rename_i b1 es1 seen1 hbx
    simp only [Option.some.injEq, Prod.mk.injEq] at hq
    obtain ⟨_, rfl, rfl, rfl⟩ := hq
    obtain ⟨hown, r, es', clock, sn, g1, g2, g3, g4, g5, g6, g7, g8, g9⟩ := hR.bx id _ hbx
    have hv := hR.ev (.tmp it) (fun t' e => by cases e; rw [hcn]; exact n1)
    have hev : s.fs.ev (.tmp it) = .ptr id b1 0 := ht
    rw [hev] at hv
    have hsz : a.tmps.size = nt := hR.size.trans hcn
    generalize hva : a.eval (.tmp it) = v at hv
    cases hv
    have hbD : ¬ D b1 := (hown b1 rfl).2
    have hblt : b1 < w.heap.size := (Array.getElem?_eq_some_iff.1 g1).1
    have fin : ∀ (x : { a : Option Nat // nxtP es1 seen1 a }) (tv : Value) (w' : World) (sn' : Array Nat), (execOp a.eval o2).run P w = .ok (.value tv) w' → (∀ w'' : World, (execOp (a.put (some nx) tv).eval o3).run P w'' = .ok (.value (.bool x.1.isSome)) w'') →
        Below 0 w w' → (∀ k, k ≠ b1 → w'.heap[k]? = w.heap[k]?) → w'.heap[b1]? = some (.mapIter (some r) clock sn' clock) →
        (∀ (j : Nat) (e : MapEntry), es'[j]? = some e → (sn'.contains e.born = true ↔ j ∈ nxtS seen1 x.1)) → (∀ j, (nxtS seen1 x.1).head? = some j → ∃ e, es'[j]? = some e ∧ sn'.back? = some e.born) →
        (Code.seq (.region id8 #[o2, o3] false) rest).wp P (fun e a' w' => ∃ s', Q e s' ∧ Rel c s' a' w') a w := by
      intro x tv w' sn' hrun2 hrun3 h0 hk hb' hs1 hs2
      refine wp_seq (wp_region ?_)
      show wpOps P #[o2, o3] _ [0, 1] a w
      refine wpOps_val (o := o2) rfl h2.2.2 hrun2 ?_
      rw [h2.2.1]
      refine wpOps_val (o := o3) rfl h3.2.2 (hrun3 w') ?_
      rw [h3.2.1]
      have hfr : ∀ {x : AV} {v : Value}, Ra D w x v → Ra D w' x v := fun h => h.frame (fun _ h => h) h0.size (fun q hd _ => hk q (fun e => hbD (e ▸ hd)))
      have hR2 := hR.mut hcb id (.iter b1 es1 seen1) (.iter b1 es1 (nxtS seen1 x.1)) hbx h0 (fun k hk' _ => hk k (fun e => hk' (by rw [e]; rfl))) (fun g hg => ⟨.inl hg, by obtain rfl := Option.some.inj hg; exact hbD⟩)
        ⟨r, es', clock, sn', hb', g2, Nat.lt_of_lt_of_le g3 h0.size, (hk r (fun e => hbD (e ▸ g2))).trans g4, g5, g6, fun j p e hp he => hfr (g7 j p e hp he), hs1, hs2⟩
      refine kk x _ _ ⟨Nat.le_trans hcb h0.size, D, ?_⟩
      rw [← LS.fs_setB, ← LS.fs_put, ← LS.fs_put]
      exact (hR2.put (some nx) (.any _)).put (some t) (.val _)
    have hex : ∀ (tv : Value) (bv : Bool) (vs : Array Value), tv = .tuple vs → vs[0]? = some (.bool bv) → ∀ (w'' : World), (execOp (a.put (some nx) tv).eval o3).run P w'' = .ok (.value (.bool bv)) w'' := fun tv bv vs h1 h2 w'' => by
      subst h1
      have he := eval_put (a := a) (d := nx) (v := .tuple vs) (by omega)
      simp [execOp, h3.1, he, Instr.extract, h2]
    rcases next_run (P := P) (ty := o2.type) g1 g4 g5.2 with ⟨hall, hrun⟩ | ⟨e, hem, hns, w1, hw1, hrun⟩
    · refine fin ⟨none, fun j hj => ?_⟩ (.tuple #[.bool false]) w sn ?_ (hex _ false _ rfl rfl) (Below.refl 0 w) (fun _ _ => rfl) g1 g8 g9
      · have hj' : j < es'.size := by rw [← g5.1]; exact hj
        exact (g8 j es'[j] (Array.getElem?_eq_getElem hj')).1 (hall _ (by simp))
      · simp [execOp, h2.1, hva, hrun]
    · obtain ⟨j, hj⟩ := List.getElem?_of_mem hem
      have hj' : es'[j]? = some e := by simpa using hj
      have hjl : j < es1.length := by rw [g5.1]; exact (Array.getElem?_eq_some_iff.1 hj').1
      have hjs : j ∉ seen1 := fun h => by rw [(g8 j e hj').2 h] at hns; cases hns
      have hheap : w1.heap = w.heap := by rcases hw1 with rfl | rfl <;> rfl
      refine fin ⟨some j, hjl, hjs⟩ (.tuple #[.bool true, e.key, e.val]) { w1 with heap := w1.heap.setIfInBounds b1 (.mapIter (some r) clock (sn.push e.born) clock) } (sn.push e.born) ?_ (hex _ true _ rfl rfl) ?_ (fun k hk => ?_) ?_ ?_ ?_
      · simp [execOp, h2.1, hva, hrun]
      · rcases hw1 with rfl | rfl <;> exact ⟨rfl, rfl, rfl, by simp, fun q hq => absurd hq (Nat.not_lt_zero q)⟩
      · show (w1.heap.setIfInBounds b1 _)[k]? = _
        rw [hheap]
        exact Array.getElem?_setIfInBounds_ne (Ne.symm hk)
      · show (w1.heap.setIfInBounds b1 _)[b1]? = _
        rw [hheap]
        simp [hblt]
      · intro k e' he'
        rw [contains_push]
        show _ ↔ k ∈ j :: seen1
        rw [List.mem_cons, Bool.or_eq_true, g8 k e' he']
        constructor
        · rintro (h | h)
          · exact .inr h
          · left
            have hb : e'.born = e.born := by simpa using h
            have hk1 := (Array.getElem?_eq_some_iff.1 he').1
            have hj1 := (Array.getElem?_eq_some_iff.1 hj').1
            have hnd := g5.2.2
            rw [List.nodup_iff_pairwise_ne] at hnd
            have hp := List.pairwise_iff_getElem.1 hnd
            have ek : (es'.toList.map (·.born))[k]'(by simpa using hk1) = e'.born := by simp [(Array.getElem?_eq_some_iff.1 he').2]
            have ej : (es'.toList.map (·.born))[j]'(by simpa using hj1) = e.born := by simp [(Array.getElem?_eq_some_iff.1 hj').2]
            rcases Nat.lt_trichotomy k j with hlt | heq | hlt
            · exact absurd (ek.trans (hb.trans ej.symm)) (hp k j (by simpa using hk1) (by simpa using hj1) hlt)
            · exact heq
            · exact absurd (ej.trans (hb.symm.trans ek.symm)) (hp j k (by simpa using hj1) (by simpa using hk1) hlt)
        · rintro (h | h)
          · right
            subst h
            rw [hj'] at he'
            obtain rfl := Option.some.inj he'
            simp
          · exact .inl h
      · intro k hk
        obtain rfl : j = k := by simpa [nxtS] using hk
        exact ⟨e, hj', by simp⟩
  · cases hq
theorem rule_entry {P : Program} {nt it en kx kd id9 b : Nat} {o4 o5 o6 : Oper} {code rest : Code} {es : List (MK × AV)} {j : Nat} {seen : List Nat} (id : Nat) {p : MK × AV} (hp : es[j]? = some p) (hc : code = .seq (.region id9 #[o4, o5, o6] false) rest)
    (h4 : o4.op = .entry (.tmp it) ∧ o4.dst = some en ∧ o4.guard = none) (h5 : o5.op = .extract (.tmp en) 0 ∧ o5.dst = some kx ∧ o5.guard = none) (h6 : o6.op = .assign (.tmp kx) ∧ o6.dst = some kd ∧ o6.guard = none) (hn : it < nt ∧ en < nt ∧ kx < nt ∧ kd < nt) :
    ∀ (c : Cx) (Q : Exit → FS → Prop) (s : LS), c.n = nt → P.follows .mixedOrders = true → ((nxtR it s).map fun x => (x, lget s.tm it)) = some ((b, b, es, j :: seen), .ptr id b 0) →
      (∀ _ : Unit, AWp c P rest Q (((s.put (some en) .any).put (some kx) (.val p.1.val)).put (some kd) (.val p.1.val)).fs) → AWp c P code Q s.fs := by
  subst hc
  intro c Q s hcn hm hrd kk a w hr
  obtain ⟨hcb, D, hR⟩ := hr
  obtain ⟨n1, n2, n3, n4⟩ := hn
  cases hq : nxtR it s with
  | none => rw [hq] at hrd; cases hrd
  | some y =>
  rw [hq] at hrd
  simp only [Option.map_some, Option.some.injEq, Prod.mk.injEq] at hrd
  obtain ⟨rfl, ht⟩ := hrd
  unfold nxtR at hq
  rw [ht] at hq
  simp only at hq
  split at hq
  · rename_i b1 es1 seen1 hbx
    simp only [Option.some.injEq, Prod.mk.injEq] at hq
    obtain ⟨_, rfl, rfl, hse⟩ := hq
    subst hse
    obtain ⟨hown, r, es', clock, sn, g1, g2, g3, g4, g5, g6, g7, g8, g9⟩ := hR.bx id _ hbx
    obtain ⟨e, he, hback⟩ := g9 j rfl
    have hkey := g6 j p e hp he
    have hv := hR.ev (.tmp it) (fun t' e => by cases e; rw [hcn]; exact n1)
    have hev : s.fs.ev (.tmp it) = .ptr id b1 0 := ht
    rw [hev] at hv
    have hsz : a.tmps.size = nt := hR.size.trans hcn
    generalize hva : a.eval (.tmp it) = v at hv
    cases hv
    have hfind : es'.find? (·.born == e.born) = some e := by
      rw [← Array.find?_toList]
      exact find_born e es'.toList g5.2.2 (by have := List.mem_of_getElem? (show es'.toList[j]? = some e by simpa using he); exact this)
    have hrun : (Instr.entry (.pointer (some ⟨b1, 0, none⟩))).run P w = .ok (.tuple #[e.key, e.val]) w := by
      simp only [Instr.entry, getObj, Sem.run_bind, Sem.run, g1, g4, Result.andThen, hback, bne_self_eq_false, Bool.false_eq_true, if_false, hfind]
      rfl
    refine wp_seq (wp_region ?_)
    show wpOps P #[o4, o5, o6] _ [0, 1, 2] a w
    refine wpOps_val (o := o4) rfl h4.2.2 (v := .tuple #[e.key, e.val]) (w' := w) (by simp [execOp, h4.1, hva, hrun]) ?_
    rw [h4.2.1]
    have he1 := eval_put (a := a) (d := en) (v := .tuple #[e.key, e.val]) (by omega)
    have hs1 := size_put a (some en) (.tuple #[e.key, e.val])
    refine wpOps_val (o := o5) rfl h5.2.2 (v := e.key) (w' := w) (by simp [execOp, h5.1, he1, Instr.extract]) ?_
    rw [h5.2.1]
    have he2 := eval_put (a := a.put (some en) (.tuple #[e.key, e.val])) (d := kx) (v := e.key) (by omega)
    refine wpOps_val (o := o6) rfl h6.2.2 (v := e.key) (w' := w) (by simp [execOp, h6.1, he2]) ?_
    rw [h6.2.1]
    refine kk () _ _ ⟨hcb, D, ?_⟩
    rw [← LS.fs_put, ← LS.fs_put, ← LS.fs_put]
    have hkv : Ra D w (.val p.1.val) e.key := by rw [hkey]; exact .val _
    exact ((hR.put (some en) (.any _)).put (some kx) hkv).put (some kd) hkv
  · cases hq
def itR (id : Nat) (s : LS) : Option (Nat × List (MK × AV) × List Nat) :=
  match bget s.bx id with
  | some (.iter b es sn) => some (b, es, sn)
  | _ => none
theorem rule_it {P : Program} {id b : Nat} {es : List (MK × AV)} {sn sn' : List Nat} (he : sn = sn') : ∀ (c : Cx) (Q : Exit → FS → Prop) (code : Code) (s : LS), itR id s = some (b, es, sn) → (∀ a : Unit, AWp c P code Q (s.setB id (.iter b es sn')).fs) → AWp c P code Q s.fs := by
  subst he
  intro c Q code s h kk
  unfold itR at h
  split at h
  · rename_i b' es' sn' hb
    simp only [Option.some.injEq, Prod.mk.injEq] at h
    obtain ⟨rfl, rfl, rfl⟩ := h
    have := kk ()
    rw [← LS.fs_setB] at this
    have e : s.fs.setB id (some (.iter b' es' sn')) = s.fs := by
      show FS.mk _ _ = FS.mk _ _
      congr 1
      funext i
      show (if i = id then some (Bx.iter b' es' sn') else s.fs.bx i) = s.fs.bx i
      split
      · rename_i hi; subst hi; exact hb.symm
      · rfl
    rw [e] at this
    exact this
  · cases h
end Go.Proofs.Ytgcjfhgkkgocpaa
