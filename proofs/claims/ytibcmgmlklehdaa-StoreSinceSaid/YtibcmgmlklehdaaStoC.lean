/- ref08.Find, ref11.With, ref11.Changes. -/
import Derived.Test.YtibcmgmlklehdaaStoZ
set_option linter.unusedVariables false
set_option linter.unusedSimpArgs false
namespace Go.Proofs.Ytibcmgmlklehdaa
open Go Go.RowKit Copyhold

structure Chg where
  ino : Int
  gone : Bool
  n : Nod
  deriving DecidableEq
def chgA (c : Chg) : List AV := [aI c.ino, aB c.gone, aI c.n.ino, aI c.n.kind, aI c.n.links, aS c.n.text, .sl 2 false (c.n.l.map entA)]
def chgR (c : Chg) : List AV := [aI c.ino, aB c.gone, aI c.n.ino, aI c.n.kind, aI c.n.links, aS c.n.text, bif c.gone then aN else .sl 2 false (c.n.l.map entA)]
theorem chg_sub {l : List Chg} {t : Bool} (h : ∀ c ∈ l, c.gone = true → c.n.l = []) : Sub (.sl 7 t (l.map chgR)) (.sl 7 false (l.map chgA)) :=
  (Sub.sl2 (xs := l.map chgR) (ys := l.map chgA) (by simp) (fun i a b ha hb => by
    rw [List.getElem?_map] at ha hb
    cases hc : l[i]? with
    | none => rw [hc] at ha; cases ha
    | some c =>
      rw [hc] at ha hb
      obtain rfl := Option.some.inj ha
      obtain rfl := Option.some.inj hb
      refine ⟨Sub.refl _, Sub.refl _, Sub.refl _, Sub.refl _, Sub.refl _, Sub.refl _, ?_, trivial⟩
      cases hg : c.gone with
      | false => exact Sub.refl _
      | true =>
        rw [h c (List.mem_of_getElem? hc) hg]
        exact Sub.nil _ _)).trans (Sub.loose _ _ _)
def OkG (c : Chg) : Prop := I64 c.ino ∧ OkN c.n
def isNo (i : Int) (n : Nod) : Bool := n.ino == i
def findB (f : Fsy) (i : Int) : Bool := f.l.any (isNo i)
def findN (f : Fsy) (i : Int) : Nod := (f.l.find? (isNo i)).getD nod0
theorem find_at {i : Int} : ∀ {l : List Nod} {k : Nat} {x : Nod}, AllTo (fun _ n => isNo i n = false) l k → l[k]? = some x → isNo i x = true → l.any (isNo i) = true ∧ l.find? (isNo i) = some x
  | y :: r, 0, x, _, hx, hp => by simp at hx; subst hx; simp [hp]
  | y :: r, k + 1, x, h, hx, hp => by
    have h1 := h 0 y (by omega) rfl
    obtain ⟨h2, h3⟩ := find_at (l := r) (k := k) (fun j e hj he => h (j + 1) e (by omega) (by simpa using he)) (by simpa using hx) hp
    simp [h1, h2, h3]
theorem find_no {i : Int} {l : List Nod} (h : AllQ (fun _ n => isNo i n = false) l) : l.any (isNo i) = false ∧ l.find? (isNo i) = none := by
  have h0 : ∀ x ∈ l, isNo i x = false := fun x hx => by obtain ⟨j, hj⟩ := List.getElem?_of_mem hx; exact h j x hj
  constructor
  · rw [List.any_eq_false]; intro x hx; simp [h0 x hx]
  · rw [List.find?_eq_none]; intro x hx; simp [h0 x hx]
/-- a number more in a row that rises -/
def withD (l : List Int) (n : Int) : List Int := l.takeWhile (fun x => decide (x < n)) ++ n :: (l.dropWhile (fun x => decide (x < n))).filter (fun x => x != n)
theorem take_while {p : Int → Bool} : ∀ {l : List Int} {k : Nat}, k ≤ l.length → AllTo (fun _ x => p x = true) l k → (k = l.length ∨ ∃ x, l[k]? = some x ∧ p x = false) → l.takeWhile p = l.take k ∧ l.dropWhile p = l.drop k
  | [], k, hk, _, _ => by simp at hk; subst hk; simp
  | x :: r, 0, _, _, he => by
    rcases he with h | ⟨y, hy, hp⟩
    · simp at h
    · simp at hy; subst hy; simp [hp]
  | x :: r, k + 1, hk, h, he => by
    have h1 := h 0 x (by omega) rfl
    obtain ⟨h2, h3⟩ := take_while (l := r) (k := k) (by simp at hk; omega) (fun j e hj he => h (j + 1) e (by omega) (by simpa using he)) (by
      rcases he with h | ⟨y, hy, hp⟩
      · left; simp at h; omega
      · right; exact ⟨y, by simpa using hy, hp⟩)
    simp [h1, h2, h3]
def withL (l : List Int) (n : Int) (i k : Nat) : List Int := l.take i ++ n :: ((l.take k).drop i).filter (fun x => x != n)
theorem withL_yes {l : List Int} {n : Int} {i k : Nat} {x : Int} (hx : l[k]? = some x) (hi : i ≤ k) (h : (x != n) = true) : withL l n i (k + 1) = withL l n i k ++ [x] := by
  unfold withL
  rw [take_step hx, List.drop_append_of_le_length (by rw [List.length_take]; have := lt_of_some hx; omega), List.filter_append]
  simp [h]
theorem withL_no {l : List Int} {n : Int} {i k : Nat} {x : Int} (hx : l[k]? = some x) (hi : i ≤ k) (h : (x != n) = false) : withL l n i (k + 1) = withL l n i k := by
  unfold withL
  rw [take_step hx, List.drop_append_of_le_length (by rw [List.length_take]; have := lt_of_some hx; omega), List.filter_append]
  simp [h]
theorem withL_le (l : List Int) (n : Int) (i k : Nat) (hi : i ≤ k) (hk : k ≤ l.length) : (withL l n i k).length ≤ k + 1 := by
  unfold withL
  have := List.length_filter_le (fun x => x != n) ((l.take k).drop i)
  rw [List.length_drop, List.length_take] at this
  simp only [List.length_append, List.length_cons, List.length_take]
  omega
theorem withL_all {l : List Int} {n : Int} {i k : Nat} (hk : l.length ≤ k) (hi : i ≤ l.length) (h : AllTo (fun _ x => x < n) l i) (he : i = l.length ∨ ∃ x, l[i]? = some x ∧ ¬ x < n) : withL l n i k = withD l n := by
  obtain ⟨h1, h2⟩ := take_while (p := fun x => decide (x < n)) hi (fun j e hj hx => decide_eq_true (h j e hj hx)) (by
    rcases he with h | ⟨x, hx, hp⟩
    · exact .inl h
    · exact .inr ⟨x, hx, decide_eq_false hp⟩)
  unfold withL withD
  rw [h1, h2, take_all hk]
theorem mem_with {l : List Int} {n x : Int} (h : x ∈ withD l n) : x ∈ l ∨ x = n := by
  unfold withD at h
  rcases List.mem_append.1 h with h | h
  · exact .inl (List.takeWhile_subset _ h)
  · rcases List.mem_cons.1 h with h | h
    · exact .inr h
    · exact .inl (List.dropWhile_subset _ (List.mem_filter.1 h).1)
theorem with_le (l : List Int) (n : Int) : (withD l n).length ≤ l.length + 1 := by
  unfold withD
  have h1 := List.length_filter_le (fun x => x != n) (l.dropWhile (fun x => decide (x < n)))
  have h2 : (l.takeWhile (fun x => decide (x < n))).length + (l.dropWhile (fun x => decide (x < n))).length = l.length := by rw [← List.length_append, List.takeWhile_append_dropWhile]
  simp only [List.length_append, List.length_cons]
  omega
def noRow (l : List Int) (ns : List Nod) : List Int := ns.foldl (fun l n => withD l n.ino) l
theorem noRow_step {l : List Int} {ns : List Nod} {k : Nat} {x : Nod} (h : ns[k]? = some x) : noRow l (ns.take (k + 1)) = withD (noRow l (ns.take k)) x.ino := by
  unfold noRow; rw [take_step h, List.foldl_append]; rfl
theorem noRow_le (l : List Int) : ∀ (ns : List Nod) , (noRow l ns).length ≤ l.length + ns.length := by
  intro ns
  induction ns generalizing l with
  | nil => exact Nat.le_refl _
  | cons n r ih =>
    have := ih (withD l n.ino)
    have := with_le l n.ino
    show (noRow (withD l n.ino) r).length ≤ _
    simp only [List.length_cons]
    omega
theorem mem_noRow {x : Int} : ∀ {ns : List Nod} {l : List Int}, x ∈ noRow l ns → x ∈ l ∨ ∃ n ∈ ns, n.ino = x
  | [], l, h => .inl h
  | n :: r, l, h => by
    rcases mem_noRow (ns := r) (l := withD l n.ino) h with h | ⟨m, hm, e⟩
    · rcases mem_with h with h | h
      · exact .inl h
      · exact .inr ⟨n, by simp, h.symm⟩
    · exact .inr ⟨m, by simp [hm], e⟩
def allNo (a b : Fsy) : List Int := noRow (noRow [] a.l) b.l
def chgD (a b : Fsy) (i : Int) : Option Chg := if findB b i = false then some ⟨i, true, nod0⟩ else if findB a i = false ∨ ¬ findN a i = findN b i then some ⟨i, false, findN b i⟩ else none
def chgL (a b : Fsy) (k : Nat) : List Chg := ((allNo a b).take k).filterMap (chgD a b)
def changesD (a b : Fsy) : List Chg := (allNo a b).filterMap (chgD a b)
theorem chgL_yes {a b : Fsy} {k : Nat} {i : Int} {c : Chg} (hx : (allNo a b)[k]? = some i) (h : chgD a b i = some c) : chgL a b (k + 1) = chgL a b k ++ [c] := by
  unfold chgL; rw [take_step hx, List.filterMap_append]; simp [h]
theorem chgL_no {a b : Fsy} {k : Nat} {i : Int} (hx : (allNo a b)[k]? = some i) (h : chgD a b i = none) : chgL a b (k + 1) = chgL a b k := by
  unfold chgL; rw [take_step hx, List.filterMap_append]; simp [h]
theorem chgL_le (a b : Fsy) (k : Nat) : (chgL a b k).length ≤ k := by
  have := List.length_filterMap_le (chgD a b) ((allNo a b).take k)
  rw [List.length_take] at this
  unfold chgL; omega
theorem chgL_all {a b : Fsy} {k : Nat} (h : (allNo a b).length ≤ k) : chgL a b k = changesD a b := by unfold chgL; rw [take_all h]; rfl
theorem changes_gone {a b : Fsy} : ∀ c ∈ changesD a b, c.gone = true → c.n.l = [] := fun c hc hg => by
  obtain ⟨i, _, h⟩ := List.mem_filterMap.1 hc
  unfold chgD at h
  split at h
  · obtain rfl := Option.some.inj h; rfl
  · split at h
    · obtain rfl := Option.some.inj h; cases hg
    · cases h
theorem findN_ok {f : Fsy} (ok : OkF f) (i : Int) : OkN (findN f i) := by
  unfold findN
  cases h : f.l.find? (isNo i) with
  | none => exact nod0_ok
  | some n => exact ok.2.2 n (List.mem_of_find?_eq_some h)
set_option maxRecDepth 100000 in
set_option maxHeartbeats 4000000 in
theorem rfind_spec (f : Fsy) (i : Int) (hl : f.l.length ≤ 8796093022207) : FSpec Try.prog 24 [.agg [.sl 5 false (f.l.map nodA), aI f.next], aI i] (.tup [.agg (nodA (findN f i)), aB (findB f i)]) := by
  exact spec_vc (F := Try.f24) 400 (
 .new fun b1 => .new fun b2 => .r 1 <| .r 1 <| let L1 : Lp (Nat) := ⟨fun a1 => ⟨[(1, aI i), (2, .ptr 2 b1 0), (4, .ptr 4 b2 0), (6, aI (a1 : Int))], [(2, .box b1 31 [.sl 5 false (f.l.map nodA), aI f.next]), (4, .box b2 43 [aI 0, aI 0, aI 0, aS ([]), aN])]⟩, fun a1 => f.l.length - a1, fun a1 => a1 ≤ f.l.length ∧ AllTo (fun _ n => isNo i n = false) f.l a1⟩
 .loop L1 0 (show 0 ≤ f.l.length ∧ AllTo (fun _ n => isNo i n = false) f.l 0 from ⟨Nat.zero_le _, AllTo.zero _ _⟩) ⟨[(1, aI i), (2, .ptr 2 b1 0), (4, .ptr 4 b2 0), (6, aI 0)], [(2, .box b1 31 [.sl 5 false (f.l.map nodA), aI f.next]), (4, .box b2 43 [aI 0, aI 0, aI 0, aS ([]), aN])]⟩ ⟨Sub.refl _, Sub.refl _, Sub.refl _, Sub.of_eq (congrArg aI (by first | omega | rfl)), trivial⟩ ⟨⟨_, rfl, SubB.refl _⟩, ⟨_, rfl, SubB.refl _⟩, trivial⟩ fun a1 ha1 =>
 (fun (k : Nat) (hH1 : k ≤ f.l.length ∧ AllTo (fun _ n => isNo i n = false) f.l k) => .run 4 [b1 = b1] ⟨rfl, trivial⟩ <|
 .val 10 (show (aI ((f.l.map nodA).length : Int) : AV) = aI (f.l.length : Int) from by rw [List.length_map]) <| .r 1 <| .br 11 (decide ((k : Int) < (f.l.length : Int))) (fun q1 => have p1 := decT q1; .run 3 [b1 = b1] ⟨rfl, trivial⟩ <|
 .idxM f.l nodA k (m := (k : Int)) rfl (by omega) fun x1 hx1 =>
 .r 4 <| .br 21 (x1.ino == i) (fun q2 => have p2 := beqT q2; .run 3 [b1 = b1] ⟨rfl, trivial⟩ <|
 .idx k (m := (k : Int)) (xs := f.l.map nodA) (e := nodA x1) rfl (map_some hx1) <|
 .run 3 [b2 = b2] ⟨rfl, trivial⟩ <|
 .fin (x := .tup [.agg [aI x1.ino, aI x1.kind, aI x1.links, aS x1.text, .sl 2 false (x1.l.map entA)], aB true]) (r := .tup [.agg (nodA (findN f i)), aB (findB f i)]) [b2 = b2] ⟨rfl, trivial⟩ (by
    obtain ⟨e1, e2⟩ := find_at hH1.2 hx1 (by assumption)
    rw [show findN f i = x1 from by unfold findN; rw [e2]; rfl, show findB f i = true from e1]
    exact Sub.refl _))
 <| fun q2 => have p2 := beqF q2; .run 3 [rng .i64 ((k : Int) + 1)] ⟨rng64 (by omega) (by omega), trivial⟩ <|
 .back L1 k (k + 1) (show (k + 1) ≤ f.l.length ∧ AllTo (fun _ n => isNo i n = false) f.l (k + 1) from ⟨by omega, hH1.2.step hx1 (by assumption)⟩) (show f.l.length - (k + 1) < f.l.length - k from (by omega)) ⟨[(1, aI i), (2, .ptr 2 b1 0), (4, .ptr 4 b2 0), (6, aI ((k : Int) + 1))], [(2, .box b1 31 [.sl 5 false (f.l.map nodA), aI f.next]), (4, .box b2 43 [aI 0, aI 0, aI 0, aS ([]), aN])]⟩ ⟨Sub.refl _, Sub.refl _, Sub.refl _, Sub.of_eq (congrArg aI (by first | omega | rfl)), trivial⟩ ⟨⟨_, rfl, SubB.refl _⟩, ⟨_, rfl, SubB.refl _⟩, trivial⟩)
 <| fun q1 => have p1 := decF q1; .run 3 [b2 = b2] ⟨rfl, trivial⟩ <|
 .fin (x := .tup [.agg [aI 0, aI 0, aI 0, aS ([]), aN], aB false]) (r := .tup [.agg (nodA (findN f i)), aB (findB f i)]) [b2 = b2] ⟨rfl, trivial⟩ (by
    obtain ⟨e1, e2⟩ := find_no (hH1.2.full (by omega))
    rw [show findN f i = nod0 from by unfold findN; rw [e2]; rfl, show findB f i = false from e1]
    exact Sub.tups ⟨Sub.aggs ⟨Sub.refl _, Sub.refl _, Sub.refl _, Sub.refl _, Sub.nil _ _, trivial⟩, Sub.refl _, trivial⟩)) a1 ha1) Try.func24 rfl (by kernel_rfl) (by kernel_rfl)
set_option maxRecDepth 100000 in
set_option maxHeartbeats 4000000 in
theorem with_spec (l : List Int) (n : Int) (hl : l.length ≤ 100000) : FSpec Try.prog 48 [.sl 1 false (l.map intA), aI n] (.sl 1 false ((withD l n).map intA)) := by
  exact spec_vc (F := Try.f48) 400 (
 .r 1 <| .r 1 <| .rowNil 5 5 3 1 <| .r 1 <| let L1 : Lp (Nat × Value) := ⟨fun a1 => ⟨[(0, .sl 1 false (l.map intA)), (1, aI n), (6, aI (a1.1 : Int)), (5, .rw 5 a1.2 a1.1)], [(5, .row a1.2 3 1 ((l.take a1.1).map intA))]⟩, fun a1 => l.length - a1.1, fun a1 => a1.1 ≤ l.length ∧ AllTo (fun _ x => x < n) l a1.1⟩
 .loop L1 (0, .slice none 0 0) (show 0 ≤ l.length ∧ AllTo (fun _ x => x < n) l 0 from ⟨Nat.zero_le _, AllTo.zero _ _⟩) ⟨[(0, .sl 1 false (l.map intA)), (1, aI n), (6, aI 0), (5, .rw 5 (.slice none 0 0) 0)], [(5, .row (.slice none 0 0) 3 1 ([]))]⟩ ⟨Sub.refl _, Sub.refl _, Sub.of_eq (congrArg aI (by first | omega | rfl)), Sub.refl _, trivial⟩ ⟨⟨_, rfl, SubB.refl _⟩, trivial⟩ fun a1 ha1 =>
 (fun (k : Nat) (V : Value) (hH1 : k ≤ l.length ∧ AllTo (fun _ x => x < n) l k) => .r 3 <| .val 9 (show (aI ((l.map intA).length : Int) : AV) = aI (l.length : Int) from by rw [List.length_map]) <| .r 2 <| .br 11 (decide ((k : Int) < (l.length : Int))) (fun q1 => have p1 := decT q1; .r 2 <| .idxM l intA k (m := (k : Int)) rfl (by omega) fun x1 hx1 =>
 .r 4 <| .br 18 (decide (x1 < n)) (fun q2 => have p2 := decT q2; .r 3 <| .idx k (m := (k : Int)) (xs := l.map intA) (e := intA x1) rfl (map_some hx1) <|
 .r 2 <| .app 8 V ((l.take k).map intA) ([[aI x1]]) (by first | (simp; omega) | (have := withL_le l n k j (by omega) (by omega); simp only [List.length_map, List.length_cons, List.length_nil]; omega)) (by first | (simp; omega) | (have := withL_le l n k j (by omega) (by omega); simp only [List.length_map, List.length_cons, List.length_nil]; omega)) fun V1 =>
 .r 1 <| .run 3 [rng .i64 ((k : Int) + 1)] ⟨rng64 (by omega) (by omega), trivial⟩ <|
 .back L1 (k, V) ((k + 1), V1) (show (k + 1) ≤ l.length ∧ AllTo (fun _ x => x < n) l (k + 1) from ⟨by omega, hH1.2.step hx1 (by omega)⟩) (show l.length - (k + 1) < l.length - k from (by omega)) ⟨[(0, .sl 1 false (l.map intA)), (1, aI n), (6, aI ((k : Int) + 1)), (5, .rw 5 V1 (((l.take k).map intA).length + ([[aI x1]] : List (List AV)).length))], [(5, .row V1 3 1 (((l.take k).map intA) ++ ([[aI x1]])))]⟩ ⟨Sub.refl _, Sub.refl _, Sub.of_eq (congrArg aI (by first | omega | rfl)), Sub.of_eq (congrArg (AV.rw 5 V1) (by simp; omega)), trivial⟩ ⟨⟨_, rfl, SubB.of_eq (by rw [take_step hx1]; simp [intA])⟩, trivial⟩)
 <| fun q2 => have p2 := decF q2; .r 3 <| .app 8 V ((l.take k).map intA) ([[aI n]]) (by first | (simp; omega) | (have := withL_le l n k j (by omega) (by omega); simp only [List.length_map, List.length_cons, List.length_nil]; omega)) (by first | (simp; omega) | (have := withL_le l n k j (by omega) (by omega); simp only [List.length_map, List.length_cons, List.length_nil]; omega)) fun V2 =>
 .r 1 <| let L2 : Lp (Nat × Value) := ⟨fun a2 => ⟨[(0, .sl 1 false (l.map intA)), (1, aI n), (6, aI (a2.1 : Int)), (5, .rw 5 a2.2 ((withL l n k a2.1).length))], [(5, .row a2.2 3 1 ((withL l n k a2.1).map intA))]⟩, fun a2 => l.length - a2.1, fun a2 => k ≤ a2.1 ∧ a2.1 ≤ l.length⟩
 .loop L2 (k, V2) (show k ≤ k ∧ k ≤ l.length from ⟨Nat.le_refl _, by omega⟩) ⟨[(0, .sl 1 false (l.map intA)), (1, aI n), (6, aI (k : Int)), (5, .rw 5 V2 (((l.take k).map intA).length + ([[aI n]] : List (List AV)).length))], [(5, .row V2 3 1 (((l.take k).map intA) ++ ([[aI n]])))]⟩ ⟨Sub.refl _, Sub.refl _, Sub.refl _, Sub.of_eq (congrArg (AV.rw 5 V2) (by simp [withL]; try omega)), trivial⟩ ⟨⟨_, rfl, SubB.of_eq (by simp [withL, intA])⟩, trivial⟩ fun a2 ha2 =>
 (fun (j : Nat) (V : Value) (hH2 : k ≤ j ∧ j ≤ l.length) => .r 3 <| .val 34 (show (aI ((l.map intA).length : Int) : AV) = aI (l.length : Int) from by rw [List.length_map]) <| .r 1 <| .br 35 (decide ((j : Int) < (l.length : Int))) (fun q3 => have p3 := decT q3; .r 2 <| .idxM l intA j (m := (j : Int)) rfl (by omega) fun x2 hx2 =>
 .r 3 <| .br 41 (x2 != n) (fun q4 => have p4 := bneT q4; .r 3 <| .idx j (m := (j : Int)) (xs := l.map intA) (e := intA x2) rfl (map_some hx2) <|
 .r 2 <| .app 8 V ((withL l n k j).map intA) ([[aI x2]]) (by first | (simp; omega) | (have := withL_le l n k j (by omega) (by omega); simp only [List.length_map, List.length_cons, List.length_nil]; omega)) (by first | (simp; omega) | (have := withL_le l n k j (by omega) (by omega); simp only [List.length_map, List.length_cons, List.length_nil]; omega)) fun V3 =>
 .r 1 <| .run 3 [rng .i64 ((j : Int) + 1)] ⟨rng64 (by omega) (by omega), trivial⟩ <|
 .back L2 (j, V) ((j + 1), V3) (show k ≤ (j + 1) ∧ (j + 1) ≤ l.length from (by show _ ≤ _ ∧ _; omega)) (show l.length - (j + 1) < l.length - j from (by omega)) ⟨[(0, .sl 1 false (l.map intA)), (1, aI n), (6, aI ((j : Int) + 1)), (5, .rw 5 V3 (((withL l n k j).map intA).length + ([[aI x2]] : List (List AV)).length))], [(5, .row V3 3 1 (((withL l n k j).map intA) ++ ([[aI x2]])))]⟩ ⟨Sub.refl _, Sub.refl _, Sub.of_eq (congrArg aI (by first | omega | rfl)), Sub.of_eq (congrArg (AV.rw 5 V3) (by rw [withL_yes hx2 (by omega) q4]; simp)), trivial⟩ ⟨⟨_, rfl, SubB.of_eq (by rw [withL_yes hx2 (by omega) q4]; simp [intA])⟩, trivial⟩)
 <| fun q4 => have p4 := bneF q4; .run 3 [rng .i64 ((j : Int) + 1)] ⟨rng64 (by omega) (by omega), trivial⟩ <|
 .back L2 (j, V) ((j + 1), V) (show k ≤ (j + 1) ∧ (j + 1) ≤ l.length from (by show _ ≤ _ ∧ _; omega)) (show l.length - (j + 1) < l.length - j from (by omega)) ⟨[(0, .sl 1 false (l.map intA)), (1, aI n), (6, aI ((j : Int) + 1)), (5, .rw 5 V ((withL l n k j).length))], [(5, .row V 3 1 ((withL l n k j).map intA))]⟩ ⟨Sub.refl _, Sub.refl _, Sub.of_eq (congrArg aI (by first | omega | rfl)), Sub.of_eq (congrArg (AV.rw 5 V) (by rw [withL_no hx2 (by omega) q4])), trivial⟩ ⟨⟨_, rfl, SubB.of_eq (by rw [withL_no hx2 (by omega) q4])⟩, trivial⟩)
 <| fun q3 => have p3 := decF q3; .r 2 <| .frz 5 [4] [] [V = V, (withL l n k j).length = ((withL l n k j).map intA).length] ⟨rfl, (by first | rfl | (simp; done) | (simp; omega)), trivial⟩ <|
 .fin (x := .sl 1 false ((withL l n k j).map intA)) (r := .sl 1 false ((withD l n).map intA)) [] trivial (by exact Sub.of_eq (by rw [withL_all (by omega) hH1.1 hH1.2 (.inr ⟨x1, hx1, by omega⟩)]))) a2.1 a2.2 ha2)
 <| fun q1 => have p1 := decF q1; .r 7 <| .r 3 <| .app 8 V ((l.take k).map intA) ([[aI n]]) (by first | (simp; omega) | (have := withL_le l n k j (by omega) (by omega); simp only [List.length_map, List.length_cons, List.length_nil]; omega)) (by first | (simp; omega) | (have := withL_le l n k j (by omega) (by omega); simp only [List.length_map, List.length_cons, List.length_nil]; omega)) fun V4 =>
 .r 1 <| let L2 : Lp (Nat × Value) := ⟨fun a2 => ⟨[(0, .sl 1 false (l.map intA)), (1, aI n), (6, aI (a2.1 : Int)), (5, .rw 5 a2.2 ((withL l n k a2.1).length))], [(5, .row a2.2 3 1 ((withL l n k a2.1).map intA))]⟩, fun a2 => l.length - a2.1, fun a2 => k ≤ a2.1 ∧ a2.1 ≤ l.length⟩
 .loop L2 (k, V4) (show k ≤ k ∧ k ≤ l.length from ⟨Nat.le_refl _, by omega⟩) ⟨[(0, .sl 1 false (l.map intA)), (1, aI n), (6, aI (k : Int)), (5, .rw 5 V4 (((l.take k).map intA).length + ([[aI n]] : List (List AV)).length))], [(5, .row V4 3 1 (((l.take k).map intA) ++ ([[aI n]])))]⟩ ⟨Sub.refl _, Sub.refl _, Sub.refl _, Sub.of_eq (congrArg (AV.rw 5 V4) (by simp [withL]; try omega)), trivial⟩ ⟨⟨_, rfl, SubB.of_eq (by simp [withL, intA])⟩, trivial⟩ fun a2 ha2 =>
 (fun (j : Nat) (V : Value) (hH2 : k ≤ j ∧ j ≤ l.length) => .r 3 <| .val 34 (show (aI ((l.map intA).length : Int) : AV) = aI (l.length : Int) from by rw [List.length_map]) <| .r 1 <| .br 35 (decide ((j : Int) < (l.length : Int))) (fun q5 => have p5 := decT q5; .r 2 <| .idxM l intA j (m := (j : Int)) rfl (by omega) fun x3 hx3 =>
 .r 3 <| .br 41 (x3 != n) (fun q6 => have p6 := bneT q6; .r 3 <| .idx j (m := (j : Int)) (xs := l.map intA) (e := intA x3) rfl (map_some hx3) <|
 .r 2 <| .app 8 V ((withL l n k j).map intA) ([[aI x3]]) (by first | (simp; omega) | (have := withL_le l n k j (by omega) (by omega); simp only [List.length_map, List.length_cons, List.length_nil]; omega)) (by first | (simp; omega) | (have := withL_le l n k j (by omega) (by omega); simp only [List.length_map, List.length_cons, List.length_nil]; omega)) fun V5 =>
 .r 1 <| .run 3 [rng .i64 ((j : Int) + 1)] ⟨rng64 (by omega) (by omega), trivial⟩ <|
 .back L2 (j, V) ((j + 1), V5) (show k ≤ (j + 1) ∧ (j + 1) ≤ l.length from (by show _ ≤ _ ∧ _; omega)) (show l.length - (j + 1) < l.length - j from (by omega)) ⟨[(0, .sl 1 false (l.map intA)), (1, aI n), (6, aI ((j : Int) + 1)), (5, .rw 5 V5 (((withL l n k j).map intA).length + ([[aI x3]] : List (List AV)).length))], [(5, .row V5 3 1 (((withL l n k j).map intA) ++ ([[aI x3]])))]⟩ ⟨Sub.refl _, Sub.refl _, Sub.of_eq (congrArg aI (by first | omega | rfl)), Sub.of_eq (congrArg (AV.rw 5 V5) (by rw [withL_yes hx3 (by omega) q6]; simp)), trivial⟩ ⟨⟨_, rfl, SubB.of_eq (by rw [withL_yes hx3 (by omega) q6]; simp [intA])⟩, trivial⟩)
 <| fun q6 => have p6 := bneF q6; .run 3 [rng .i64 ((j : Int) + 1)] ⟨rng64 (by omega) (by omega), trivial⟩ <|
 .back L2 (j, V) ((j + 1), V) (show k ≤ (j + 1) ∧ (j + 1) ≤ l.length from (by show _ ≤ _ ∧ _; omega)) (show l.length - (j + 1) < l.length - j from (by omega)) ⟨[(0, .sl 1 false (l.map intA)), (1, aI n), (6, aI ((j : Int) + 1)), (5, .rw 5 V ((withL l n k j).length))], [(5, .row V 3 1 ((withL l n k j).map intA))]⟩ ⟨Sub.refl _, Sub.refl _, Sub.of_eq (congrArg aI (by first | omega | rfl)), Sub.of_eq (congrArg (AV.rw 5 V) (by rw [withL_no hx3 (by omega) q6])), trivial⟩ ⟨⟨_, rfl, SubB.of_eq (by rw [withL_no hx3 (by omega) q6])⟩, trivial⟩)
 <| fun q5 => have p5 := decF q5; .r 2 <| .frz 5 [4] [] [V = V, (withL l n k j).length = ((withL l n k j).map intA).length] ⟨rfl, (by first | rfl | (simp; done) | (simp; omega)), trivial⟩ <|
 .fin (x := .sl 1 false ((withL l n k j).map intA)) (r := .sl 1 false ((withD l n).map intA)) [] trivial (by exact Sub.of_eq (by rw [withL_all (by omega) hH1.1 hH1.2 (.inl (by omega))]))) a2.1 a2.2 ha2) a1.1 a1.2 ha1) Try.func48 rfl (by kernel_rfl) (by kernel_rfl)
set_option maxRecDepth 100000 in
set_option maxHeartbeats 4000000 in
theorem rchanges_spec (f g : Fsy) (okf : OkF f) (okg : OkF g) (hf : f.l.length ≤ 1000) (hg : g.l.length ≤ 1000) : FSpec Try.prog 22 [.agg [.sl 5 false (f.l.map nodA), aI f.next], .agg [.sl 5 false (g.l.map nodA), aI g.next]] (.sl 7 false ((changesD f g).map chgA)) := by
  have hal : (allNo f g).length ≤ f.l.length + g.l.length := by have h1 := noRow_le [] f.l; have h2 := noRow_le (noRow [] f.l) g.l; unfold allNo; simp at h1; omega
  exact spec_vc (F := Try.f22) 400 (
 .new fun b1 => .new fun b2 => .r 1 <| .r 1 <| .r 1 <| let L1 : Lp (Nat) := ⟨fun a1 => ⟨[(2, .ptr 2 b1 0), (3, .ptr 3 b2 0), (6, aI (a1 : Int)), (5, .sl 1 false ((noRow [] (f.l.take a1)).map intA))], [(2, .box b1 31 [.sl 5 false (f.l.map nodA), aI f.next]), (3, .box b2 31 [.sl 5 false (g.l.map nodA), aI g.next])]⟩, fun a1 => f.l.length - a1, fun a1 => a1 ≤ f.l.length⟩
 .loop L1 0 (show 0 ≤ f.l.length from Nat.zero_le _) ⟨[(2, .ptr 2 b1 0), (3, .ptr 3 b2 0), (6, aI 0), (5, aN)], [(2, .box b1 31 [.sl 5 false (f.l.map nodA), aI f.next]), (3, .box b2 31 [.sl 5 false (g.l.map nodA), aI g.next])]⟩ ⟨Sub.refl _, Sub.refl _, Sub.of_eq (congrArg aI (by first | omega | rfl)), Sub.nil _ _, trivial⟩ ⟨⟨_, rfl, SubB.refl _⟩, ⟨_, rfl, SubB.refl _⟩, trivial⟩ fun a1 ha1 =>
 (fun (k : Nat) (hH1 : k ≤ f.l.length) => .run 4 [b1 = b1] ⟨rfl, trivial⟩ <|
 .val 18 (show (aI ((f.l.map nodA).length : Int) : AV) = aI (f.l.length : Int) from by rw [List.length_map]) <| .r 1 <| .br 19 (decide ((k : Int) < (f.l.length : Int))) (fun q1 => have p1 := decT q1; .run 4 [b1 = b1] ⟨rfl, trivial⟩ <|
 .idxM f.l nodA k (m := (k : Int)) rfl (by omega) fun x1 hx1 =>
 .r 2 <| .call (with_spec (noRow [] (f.l.take k)) x1.ino (by have := noRow_le [] (f.l.take k); simp at this; omega)) <|
 .r 1 <| .run 3 [rng .i64 ((k : Int) + 1)] ⟨rng64 (by omega) (by omega), trivial⟩ <|
 .back L1 k (k + 1) (show (k + 1) ≤ f.l.length from (by show _ ≤ _; omega)) (show f.l.length - (k + 1) < f.l.length - k from (by omega)) ⟨[(2, .ptr 2 b1 0), (3, .ptr 3 b2 0), (6, aI ((k : Int) + 1)), (5, .sl 1 false ((withD (noRow [] (f.l.take k)) x1.ino).map intA))], [(2, .box b1 31 [.sl 5 false (f.l.map nodA), aI f.next]), (3, .box b2 31 [.sl 5 false (g.l.map nodA), aI g.next])]⟩ ⟨Sub.refl _, Sub.refl _, Sub.of_eq (congrArg aI (by first | omega | rfl)), Sub.of_eq (by rw [noRow_step hx1]; rfl), trivial⟩ ⟨⟨_, rfl, SubB.refl _⟩, ⟨_, rfl, SubB.refl _⟩, trivial⟩)
 <| fun q1 => have p1 := decF q1; .r 1 <| let L2 : Lp (Nat) := ⟨fun a2 => ⟨[(2, .ptr 2 b1 0), (3, .ptr 3 b2 0), (7, aI (a2 : Int)), (5, .sl 1 false ((noRow (noRow [] f.l) (g.l.take a2)).map intA))], [(2, .box b1 31 [.sl 5 false (f.l.map nodA), aI f.next]), (3, .box b2 31 [.sl 5 false (g.l.map nodA), aI g.next])]⟩, fun a2 => g.l.length - a2, fun a2 => a2 ≤ g.l.length⟩
 .loop L2 0 (show 0 ≤ g.l.length from Nat.zero_le _) ⟨[(2, .ptr 2 b1 0), (3, .ptr 3 b2 0), (7, aI 0), (5, .sl 1 false ((noRow [] (f.l.take k)).map intA))], [(2, .box b1 31 [.sl 5 false (f.l.map nodA), aI f.next]), (3, .box b2 31 [.sl 5 false (g.l.map nodA), aI g.next])]⟩ ⟨Sub.refl _, Sub.refl _, Sub.of_eq (congrArg aI (by first | omega | rfl)), Sub.of_eq (by rw [take_all (by omega)]; rfl), trivial⟩ ⟨⟨_, rfl, SubB.refl _⟩, ⟨_, rfl, SubB.refl _⟩, trivial⟩ fun a2 ha2 =>
 (fun (j : Nat) (hH2 : j ≤ g.l.length) => .run 4 [b2 = b2] ⟨rfl, trivial⟩ <|
 .val 33 (show (aI ((g.l.map nodA).length : Int) : AV) = aI (g.l.length : Int) from by rw [List.length_map]) <| .r 1 <| .br 34 (decide ((j : Int) < (g.l.length : Int))) (fun q2 => have p2 := decT q2; .run 4 [b2 = b2] ⟨rfl, trivial⟩ <|
 .idxM g.l nodA j (m := (j : Int)) rfl (by omega) fun x2 hx2 =>
 .r 2 <| .call (with_spec (noRow (noRow [] f.l) (g.l.take j)) x2.ino (by have h1 := noRow_le [] f.l; have h2 := noRow_le (noRow [] f.l) (g.l.take j); simp at h1 h2; omega)) <|
 .r 1 <| .run 3 [rng .i64 ((j : Int) + 1)] ⟨rng64 (by omega) (by omega), trivial⟩ <|
 .back L2 j (j + 1) (show (j + 1) ≤ g.l.length from (by show _ ≤ _; omega)) (show g.l.length - (j + 1) < g.l.length - j from (by omega)) ⟨[(2, .ptr 2 b1 0), (3, .ptr 3 b2 0), (7, aI ((j : Int) + 1)), (5, .sl 1 false ((withD (noRow (noRow [] f.l) (g.l.take j)) x2.ino).map intA))], [(2, .box b1 31 [.sl 5 false (f.l.map nodA), aI f.next]), (3, .box b2 31 [.sl 5 false (g.l.map nodA), aI g.next])]⟩ ⟨Sub.refl _, Sub.refl _, Sub.of_eq (congrArg aI (by first | omega | rfl)), Sub.of_eq (by rw [noRow_step hx2]; rfl), trivial⟩ ⟨⟨_, rfl, SubB.refl _⟩, ⟨_, rfl, SubB.refl _⟩, trivial⟩)
 <| fun q2 => have p2 := decF q2; .r 1 <| .rowNil 8 8 45 7 <| .r 1 <| let L3 : Lp (Nat × Value) := ⟨fun a3 => ⟨[(2, .ptr 2 b1 0), (3, .ptr 3 b2 0), (9, aI (a3.1 : Int)), (8, .rw 8 a3.2 ((chgL f g a3.1).length)), (5, .sl 1 false ((allNo f g).map intA))], [(2, .box b1 31 [.sl 5 false (f.l.map nodA), aI f.next]), (3, .box b2 31 [.sl 5 false (g.l.map nodA), aI g.next]), (8, .row a3.2 45 7 ((chgL f g a3.1).map chgR))]⟩, fun a3 => (allNo f g).length - a3.1, fun a3 => a3.1 ≤ (allNo f g).length⟩
 .loop L3 (0, .slice none 0 0) (show 0 ≤ (allNo f g).length from Nat.zero_le _) ⟨[(2, .ptr 2 b1 0), (3, .ptr 3 b2 0), (9, aI 0), (8, .rw 8 (.slice none 0 0) 0), (5, .sl 1 false ((noRow (noRow [] f.l) (g.l.take j)).map intA))], [(2, .box b1 31 [.sl 5 false (f.l.map nodA), aI f.next]), (3, .box b2 31 [.sl 5 false (g.l.map nodA), aI g.next]), (8, .row (.slice none 0 0) 45 7 ([]))]⟩ ⟨Sub.refl _, Sub.refl _, Sub.of_eq (congrArg aI (by first | omega | rfl)), Sub.refl _, Sub.of_eq (by rw [take_all (by omega)]; rfl), trivial⟩ ⟨⟨_, rfl, SubB.refl _⟩, ⟨_, rfl, SubB.refl _⟩, ⟨_, rfl, SubB.refl _⟩, trivial⟩ fun a3 ha3 =>
 (fun (m : Nat) (V : Value) (hH3 : m ≤ (allNo f g).length) => .r 3 <| .val 47 (show (aI (((allNo f g).map intA).length : Int) : AV) = aI ((allNo f g).length : Int) from by rw [List.length_map]) <| .r 1 <| .br 48 (decide ((m : Int) < ((allNo f g).length : Int))) (fun q3 => have p3 := decT q3; .ordA [0, 1, 2, 3, 4] [[5, 6, 7, 8, 9, 10, 11], [9, 5, 6, 7, 8, 10, 11]] <| .run 3 [b1 = b1] ⟨rfl, trivial⟩ <|
 .idxM (allNo f g) intA m (m := (m : Int)) rfl (by omega) fun x3 hx3 =>
 .r 1 <| .alt (.call (rfind_spec f x3 (by omega)) <|
 .r 3 <| .new fun b3 => .run 2 [b3 = b3] ⟨rfl, trivial⟩ <|
 .ordA [0, 1, 2, 3, 4] [[5, 6, 7, 8, 9, 10, 11], [9, 5, 6, 7, 8, 10, 11]] <| .run 3 [b2 = b2] ⟨rfl, trivial⟩ <|
 .idx m (m := (m : Int)) (xs := (allNo f g).map intA) (e := intA x3) rfl (map_some hx3) <|
 .r 1 <| .alt (.call (rfind_spec g x3 (by omega)) <|
 .r 3 <| .new fun b4 => .run 2 [b4 = b4] ⟨rfl, trivial⟩ <|
 .run 2 [b3 = b3, b4 = b4] ⟨rfl, rfl, trivial⟩ <|
 .call (rnsame_spec (findN f x3) (findN g x3) (findN_ok okf _) (findN_ok okg _)) <|
 .r 1 <| .r 2 <| .br 73 (!(findB g x3)) (fun q4 => have q4 := notT q4; have p4 := booF q4; .r 3 <| .idx m (m := (m : Int)) (xs := (allNo f g).map intA) (e := intA x3) rfl (map_some hx3) <|
 .r 3 <| .app 80 V ((chgL f g m).map chgR) ([[aI x3, aB true, aI 0, aI 0, aI 0, aS ([]), aN]]) (by have := chgL_le f g m; simp only [List.length_map, List.length_cons, List.length_nil]; omega) (by have := chgL_le f g m; simp only [List.length_map, List.length_cons, List.length_nil]; omega) fun V1 =>
 .r 1 <| .run 3 [rng .i64 ((m : Int) + 1)] ⟨rng64 (by omega) (by omega), trivial⟩ <|
 .back L3 (m, V) ((m + 1), V1) (show (m + 1) ≤ (allNo f g).length from (by show _ ≤ _; omega)) (show (allNo f g).length - (m + 1) < (allNo f g).length - m from (by omega)) ⟨[(2, .ptr 2 b1 0), (3, .ptr 3 b2 0), (9, aI ((m : Int) + 1)), (8, .rw 8 V1 (((chgL f g m).map chgR).length + ([[aI x3, aB true, aI 0, aI 0, aI 0, aS ([]), aN]] : List (List AV)).length)), (5, .sl 1 false ((allNo f g).map intA))], [(2, .box b1 31 [.sl 5 false (f.l.map nodA), aI f.next]), (3, .box b2 31 [.sl 5 false (g.l.map nodA), aI g.next]), (8, .row V1 45 7 (((chgL f g m).map chgR) ++ ([[aI x3, aB true, aI 0, aI 0, aI 0, aS ([]), aN]])))]⟩ ⟨Sub.refl _, Sub.refl _, Sub.of_eq (congrArg aI (by first | omega | rfl)), Sub.of_eq (congrArg (AV.rw 8 V1) (by rw [chgL_yes hx3 (show chgD f g x3 = some ⟨x3, true, nod0⟩ from by unfold chgD; rw [if_pos q4])]; simp)), Sub.refl _, trivial⟩ ⟨⟨_, rfl, SubB.refl _⟩, ⟨_, rfl, SubB.refl _⟩, ⟨_, rfl, SubB.of_eq (by rw [chgL_yes hx3 (show chgD f g x3 = some ⟨x3, true, nod0⟩ from by unfold chgD; rw [if_pos q4])]; simp [chgR, nod0])⟩, trivial⟩)
 <| fun q4 => have q4 := notF q4; have p4 := booT q4; .r 3 <| .br 84 (!(findB f x3)) (fun q5 => have q5 := notT q5; have p5 := booF q5; .r 3 <| .ord [0, 1, 2, 3, 4, 5, 6, 7, 8, 9] <| .r 3 <| .idx m (m := (m : Int)) (xs := (allNo f g).map intA) (e := intA x3) rfl (map_some hx3) <|
 .run 4 [b4 = b4] ⟨rfl, trivial⟩ <|
 .app 80 V ((chgL f g m).map chgR) ([[aI x3, aB false, aI ((findN g x3).ino), aI ((findN g x3).kind), aI ((findN g x3).links), aS ((findN g x3).text), .sl 2 false ((findN g x3).l.map entA)]]) (by have := chgL_le f g m; simp only [List.length_map, List.length_cons, List.length_nil]; omega) (by have := chgL_le f g m; simp only [List.length_map, List.length_cons, List.length_nil]; omega) fun V2 =>
 .r 1 <| .run 3 [rng .i64 ((m : Int) + 1)] ⟨rng64 (by omega) (by omega), trivial⟩ <|
 .back L3 (m, V) ((m + 1), V2) (show (m + 1) ≤ (allNo f g).length from (by show _ ≤ _; omega)) (show (allNo f g).length - (m + 1) < (allNo f g).length - m from (by omega)) ⟨[(2, .ptr 2 b1 0), (3, .ptr 3 b2 0), (9, aI ((m : Int) + 1)), (8, .rw 8 V2 (((chgL f g m).map chgR).length + ([[aI x3, aB false, aI ((findN g x3).ino), aI ((findN g x3).kind), aI ((findN g x3).links), aS ((findN g x3).text), .sl 2 false ((findN g x3).l.map entA)]] : List (List AV)).length)), (5, .sl 1 false ((allNo f g).map intA))], [(2, .box b1 31 [.sl 5 false (f.l.map nodA), aI f.next]), (3, .box b2 31 [.sl 5 false (g.l.map nodA), aI g.next]), (8, .row V2 45 7 (((chgL f g m).map chgR) ++ ([[aI x3, aB false, aI ((findN g x3).ino), aI ((findN g x3).kind), aI ((findN g x3).links), aS ((findN g x3).text), .sl 2 false ((findN g x3).l.map entA)]])))]⟩ ⟨Sub.refl _, Sub.refl _, Sub.of_eq (congrArg aI (by first | omega | rfl)), Sub.of_eq (congrArg (AV.rw 8 V2) (by rw [chgL_yes hx3 (show chgD f g x3 = some ⟨x3, false, findN g x3⟩ from by unfold chgD; rw [if_neg (by simp [q4]), if_pos (.inl q5)])]; simp)), Sub.refl _, trivial⟩ ⟨⟨_, rfl, SubB.refl _⟩, ⟨_, rfl, SubB.refl _⟩, ⟨_, rfl, SubB.of_eq (by rw [chgL_yes hx3 (show chgD f g x3 = some ⟨x3, false, findN g x3⟩ from by unfold chgD; rw [if_neg (by simp [q4]), if_pos (.inl q5)])]; simp [chgR])⟩, trivial⟩)
 <| fun q5 => have q5 := notF q5; have p5 := booT q5; .r 3 <| .br 87 (!(dP ((findN f x3) = (findN g x3)))) (fun q6 => have q6 := notT q6; have p6 := booF q6; .ord [0, 1, 2, 3, 4, 5, 6, 7, 8, 9] <| .r 3 <| .idx m (m := (m : Int)) (xs := (allNo f g).map intA) (e := intA x3) rfl (map_some hx3) <|
 .run 4 [b4 = b4] ⟨rfl, trivial⟩ <|
 .app 80 V ((chgL f g m).map chgR) ([[aI x3, aB false, aI ((findN g x3).ino), aI ((findN g x3).kind), aI ((findN g x3).links), aS ((findN g x3).text), .sl 2 false ((findN g x3).l.map entA)]]) (by have := chgL_le f g m; simp only [List.length_map, List.length_cons, List.length_nil]; omega) (by have := chgL_le f g m; simp only [List.length_map, List.length_cons, List.length_nil]; omega) fun V3 =>
 .r 1 <| .run 3 [rng .i64 ((m : Int) + 1)] ⟨rng64 (by omega) (by omega), trivial⟩ <|
 .back L3 (m, V) ((m + 1), V3) (show (m + 1) ≤ (allNo f g).length from (by show _ ≤ _; omega)) (show (allNo f g).length - (m + 1) < (allNo f g).length - m from (by omega)) ⟨[(2, .ptr 2 b1 0), (3, .ptr 3 b2 0), (9, aI ((m : Int) + 1)), (8, .rw 8 V3 (((chgL f g m).map chgR).length + ([[aI x3, aB false, aI ((findN g x3).ino), aI ((findN g x3).kind), aI ((findN g x3).links), aS ((findN g x3).text), .sl 2 false ((findN g x3).l.map entA)]] : List (List AV)).length)), (5, .sl 1 false ((allNo f g).map intA))], [(2, .box b1 31 [.sl 5 false (f.l.map nodA), aI f.next]), (3, .box b2 31 [.sl 5 false (g.l.map nodA), aI g.next]), (8, .row V3 45 7 (((chgL f g m).map chgR) ++ ([[aI x3, aB false, aI ((findN g x3).ino), aI ((findN g x3).kind), aI ((findN g x3).links), aS ((findN g x3).text), .sl 2 false ((findN g x3).l.map entA)]])))]⟩ ⟨Sub.refl _, Sub.refl _, Sub.of_eq (congrArg aI (by first | omega | rfl)), Sub.of_eq (congrArg (AV.rw 8 V3) (by rw [chgL_yes hx3 (show chgD f g x3 = some ⟨x3, false, findN g x3⟩ from by unfold chgD; rw [if_neg (by simp [q4]), if_pos (.inr (dP_false.1 q6))])]; simp)), Sub.refl _, trivial⟩ ⟨⟨_, rfl, SubB.refl _⟩, ⟨_, rfl, SubB.refl _⟩, ⟨_, rfl, SubB.of_eq (by rw [chgL_yes hx3 (show chgD f g x3 = some ⟨x3, false, findN g x3⟩ from by unfold chgD; rw [if_neg (by simp [q4]), if_pos (.inr (dP_false.1 q6))])]; simp [chgR])⟩, trivial⟩)
 <| fun q6 => have q6 := notF q6; have p6 := booT q6; .run 3 [rng .i64 ((m : Int) + 1)] ⟨rng64 (by omega) (by omega), trivial⟩ <|
 .back L3 (m, V) ((m + 1), V) (show (m + 1) ≤ (allNo f g).length from (by show _ ≤ _; omega)) (show (allNo f g).length - (m + 1) < (allNo f g).length - m from (by omega)) ⟨[(2, .ptr 2 b1 0), (3, .ptr 3 b2 0), (9, aI ((m : Int) + 1)), (8, .rw 8 V ((chgL f g m).length)), (5, .sl 1 false ((allNo f g).map intA))], [(2, .box b1 31 [.sl 5 false (f.l.map nodA), aI f.next]), (3, .box b2 31 [.sl 5 false (g.l.map nodA), aI g.next]), (8, .row V 45 7 ((chgL f g m).map chgR))]⟩ ⟨Sub.refl _, Sub.refl _, Sub.of_eq (congrArg aI (by first | omega | rfl)), Sub.of_eq (congrArg (AV.rw 8 V) (by rw [chgL_no hx3 (show chgD f g x3 = none from by unfold chgD; rw [if_neg (by simp [q4]), if_neg (fun h => h.elim (fun h => by rw [q5] at h; cases h) (fun h => h (dP_true.1 q6)))])])), Sub.refl _, trivial⟩ ⟨⟨_, rfl, SubB.refl _⟩, ⟨_, rfl, SubB.refl _⟩, ⟨_, rfl, SubB.of_eq (by rw [chgL_no hx3 (show chgD f g x3 = none from by unfold chgD; rw [if_neg (by simp [q4]), if_neg (fun h => h.elim (fun h => by rw [q5] at h; cases h) (fun h => h (dP_true.1 q6)))])])⟩, trivial⟩)
 <| .new fun b5 => .call (rfind_spec g x3 (by omega)) <|
 .run 5 [b5 = b5] ⟨rfl, trivial⟩ <|
 .run 2 [b3 = b3, b5 = b5] ⟨rfl, rfl, trivial⟩ <|
 .call (rnsame_spec (findN f x3) (findN g x3) (findN_ok okf _) (findN_ok okg _)) <|
 .r 1 <| .r 2 <| .br 73 (!(findB g x3)) (fun q7 => have q7 := notT q7; have p7 := booF q7; .r 3 <| .idx m (m := (m : Int)) (xs := (allNo f g).map intA) (e := intA x3) rfl (map_some hx3) <|
 .r 3 <| .app 80 V ((chgL f g m).map chgR) ([[aI x3, aB true, aI 0, aI 0, aI 0, aS ([]), aN]]) (by have := chgL_le f g m; simp only [List.length_map, List.length_cons, List.length_nil]; omega) (by have := chgL_le f g m; simp only [List.length_map, List.length_cons, List.length_nil]; omega) fun V4 =>
 .r 1 <| .run 3 [rng .i64 ((m : Int) + 1)] ⟨rng64 (by omega) (by omega), trivial⟩ <|
 .back L3 (m, V) ((m + 1), V4) (show (m + 1) ≤ (allNo f g).length from (by show _ ≤ _; omega)) (show (allNo f g).length - (m + 1) < (allNo f g).length - m from (by omega)) ⟨[(2, .ptr 2 b1 0), (3, .ptr 3 b2 0), (9, aI ((m : Int) + 1)), (8, .rw 8 V4 (((chgL f g m).map chgR).length + ([[aI x3, aB true, aI 0, aI 0, aI 0, aS ([]), aN]] : List (List AV)).length)), (5, .sl 1 false ((allNo f g).map intA))], [(2, .box b1 31 [.sl 5 false (f.l.map nodA), aI f.next]), (3, .box b2 31 [.sl 5 false (g.l.map nodA), aI g.next]), (8, .row V4 45 7 (((chgL f g m).map chgR) ++ ([[aI x3, aB true, aI 0, aI 0, aI 0, aS ([]), aN]])))]⟩ ⟨Sub.refl _, Sub.refl _, Sub.of_eq (congrArg aI (by first | omega | rfl)), Sub.of_eq (congrArg (AV.rw 8 V4) (by rw [chgL_yes hx3 (show chgD f g x3 = some ⟨x3, true, nod0⟩ from by unfold chgD; rw [if_pos q7])]; simp)), Sub.refl _, trivial⟩ ⟨⟨_, rfl, SubB.refl _⟩, ⟨_, rfl, SubB.refl _⟩, ⟨_, rfl, SubB.of_eq (by rw [chgL_yes hx3 (show chgD f g x3 = some ⟨x3, true, nod0⟩ from by unfold chgD; rw [if_pos q7])]; simp [chgR, nod0])⟩, trivial⟩)
 <| fun q7 => have q7 := notF q7; have p7 := booT q7; .r 3 <| .br 84 (!(findB f x3)) (fun q8 => have q8 := notT q8; have p8 := booF q8; .r 3 <| .ord [0, 1, 2, 3, 4, 5, 6, 7, 8, 9] <| .r 3 <| .idx m (m := (m : Int)) (xs := (allNo f g).map intA) (e := intA x3) rfl (map_some hx3) <|
 .run 4 [b5 = b5] ⟨rfl, trivial⟩ <|
 .app 80 V ((chgL f g m).map chgR) ([[aI x3, aB false, aI ((findN g x3).ino), aI ((findN g x3).kind), aI ((findN g x3).links), aS ((findN g x3).text), .sl 2 false ((findN g x3).l.map entA)]]) (by have := chgL_le f g m; simp only [List.length_map, List.length_cons, List.length_nil]; omega) (by have := chgL_le f g m; simp only [List.length_map, List.length_cons, List.length_nil]; omega) fun V5 =>
 .r 1 <| .run 3 [rng .i64 ((m : Int) + 1)] ⟨rng64 (by omega) (by omega), trivial⟩ <|
 .back L3 (m, V) ((m + 1), V5) (show (m + 1) ≤ (allNo f g).length from (by show _ ≤ _; omega)) (show (allNo f g).length - (m + 1) < (allNo f g).length - m from (by omega)) ⟨[(2, .ptr 2 b1 0), (3, .ptr 3 b2 0), (9, aI ((m : Int) + 1)), (8, .rw 8 V5 (((chgL f g m).map chgR).length + ([[aI x3, aB false, aI ((findN g x3).ino), aI ((findN g x3).kind), aI ((findN g x3).links), aS ((findN g x3).text), .sl 2 false ((findN g x3).l.map entA)]] : List (List AV)).length)), (5, .sl 1 false ((allNo f g).map intA))], [(2, .box b1 31 [.sl 5 false (f.l.map nodA), aI f.next]), (3, .box b2 31 [.sl 5 false (g.l.map nodA), aI g.next]), (8, .row V5 45 7 (((chgL f g m).map chgR) ++ ([[aI x3, aB false, aI ((findN g x3).ino), aI ((findN g x3).kind), aI ((findN g x3).links), aS ((findN g x3).text), .sl 2 false ((findN g x3).l.map entA)]])))]⟩ ⟨Sub.refl _, Sub.refl _, Sub.of_eq (congrArg aI (by first | omega | rfl)), Sub.of_eq (congrArg (AV.rw 8 V5) (by rw [chgL_yes hx3 (show chgD f g x3 = some ⟨x3, false, findN g x3⟩ from by unfold chgD; rw [if_neg (by simp [q7]), if_pos (.inl q8)])]; simp)), Sub.refl _, trivial⟩ ⟨⟨_, rfl, SubB.refl _⟩, ⟨_, rfl, SubB.refl _⟩, ⟨_, rfl, SubB.of_eq (by rw [chgL_yes hx3 (show chgD f g x3 = some ⟨x3, false, findN g x3⟩ from by unfold chgD; rw [if_neg (by simp [q7]), if_pos (.inl q8)])]; simp [chgR])⟩, trivial⟩)
 <| fun q8 => have q8 := notF q8; have p8 := booT q8; .r 3 <| .br 87 (!(dP ((findN f x3) = (findN g x3)))) (fun q9 => have q9 := notT q9; have p9 := booF q9; .ord [0, 1, 2, 3, 4, 5, 6, 7, 8, 9] <| .r 3 <| .idx m (m := (m : Int)) (xs := (allNo f g).map intA) (e := intA x3) rfl (map_some hx3) <|
 .run 4 [b5 = b5] ⟨rfl, trivial⟩ <|
 .app 80 V ((chgL f g m).map chgR) ([[aI x3, aB false, aI ((findN g x3).ino), aI ((findN g x3).kind), aI ((findN g x3).links), aS ((findN g x3).text), .sl 2 false ((findN g x3).l.map entA)]]) (by have := chgL_le f g m; simp only [List.length_map, List.length_cons, List.length_nil]; omega) (by have := chgL_le f g m; simp only [List.length_map, List.length_cons, List.length_nil]; omega) fun V6 =>
 .r 1 <| .run 3 [rng .i64 ((m : Int) + 1)] ⟨rng64 (by omega) (by omega), trivial⟩ <|
 .back L3 (m, V) ((m + 1), V6) (show (m + 1) ≤ (allNo f g).length from (by show _ ≤ _; omega)) (show (allNo f g).length - (m + 1) < (allNo f g).length - m from (by omega)) ⟨[(2, .ptr 2 b1 0), (3, .ptr 3 b2 0), (9, aI ((m : Int) + 1)), (8, .rw 8 V6 (((chgL f g m).map chgR).length + ([[aI x3, aB false, aI ((findN g x3).ino), aI ((findN g x3).kind), aI ((findN g x3).links), aS ((findN g x3).text), .sl 2 false ((findN g x3).l.map entA)]] : List (List AV)).length)), (5, .sl 1 false ((allNo f g).map intA))], [(2, .box b1 31 [.sl 5 false (f.l.map nodA), aI f.next]), (3, .box b2 31 [.sl 5 false (g.l.map nodA), aI g.next]), (8, .row V6 45 7 (((chgL f g m).map chgR) ++ ([[aI x3, aB false, aI ((findN g x3).ino), aI ((findN g x3).kind), aI ((findN g x3).links), aS ((findN g x3).text), .sl 2 false ((findN g x3).l.map entA)]])))]⟩ ⟨Sub.refl _, Sub.refl _, Sub.of_eq (congrArg aI (by first | omega | rfl)), Sub.of_eq (congrArg (AV.rw 8 V6) (by rw [chgL_yes hx3 (show chgD f g x3 = some ⟨x3, false, findN g x3⟩ from by unfold chgD; rw [if_neg (by simp [q7]), if_pos (.inr (dP_false.1 q9))])]; simp)), Sub.refl _, trivial⟩ ⟨⟨_, rfl, SubB.refl _⟩, ⟨_, rfl, SubB.refl _⟩, ⟨_, rfl, SubB.of_eq (by rw [chgL_yes hx3 (show chgD f g x3 = some ⟨x3, false, findN g x3⟩ from by unfold chgD; rw [if_neg (by simp [q7]), if_pos (.inr (dP_false.1 q9))])]; simp [chgR])⟩, trivial⟩)
 <| fun q9 => have q9 := notF q9; have p9 := booT q9; .run 3 [rng .i64 ((m : Int) + 1)] ⟨rng64 (by omega) (by omega), trivial⟩ <|
 .back L3 (m, V) ((m + 1), V) (show (m + 1) ≤ (allNo f g).length from (by show _ ≤ _; omega)) (show (allNo f g).length - (m + 1) < (allNo f g).length - m from (by omega)) ⟨[(2, .ptr 2 b1 0), (3, .ptr 3 b2 0), (9, aI ((m : Int) + 1)), (8, .rw 8 V ((chgL f g m).length)), (5, .sl 1 false ((allNo f g).map intA))], [(2, .box b1 31 [.sl 5 false (f.l.map nodA), aI f.next]), (3, .box b2 31 [.sl 5 false (g.l.map nodA), aI g.next]), (8, .row V 45 7 ((chgL f g m).map chgR))]⟩ ⟨Sub.refl _, Sub.refl _, Sub.of_eq (congrArg aI (by first | omega | rfl)), Sub.of_eq (congrArg (AV.rw 8 V) (by rw [chgL_no hx3 (show chgD f g x3 = none from by unfold chgD; rw [if_neg (by simp [q7]), if_neg (fun h => h.elim (fun h => by rw [q8] at h; cases h) (fun h => h (dP_true.1 q9)))])])), Sub.refl _, trivial⟩ ⟨⟨_, rfl, SubB.refl _⟩, ⟨_, rfl, SubB.refl _⟩, ⟨_, rfl, SubB.of_eq (by rw [chgL_no hx3 (show chgD f g x3 = none from by unfold chgD; rw [if_neg (by simp [q7]), if_neg (fun h => h.elim (fun h => by rw [q8] at h; cases h) (fun h => h (dP_true.1 q9)))])])⟩, trivial⟩)
 <| .new fun b6 => .call (rfind_spec f x3 (by omega)) <|
 .run 5 [b6 = b6] ⟨rfl, trivial⟩ <|
 .ordA [0, 1, 2, 3, 4] [[5, 6, 7, 8, 9, 10, 11], [9, 5, 6, 7, 8, 10, 11]] <| .run 3 [b2 = b2] ⟨rfl, trivial⟩ <|
 .idx m (m := (m : Int)) (xs := (allNo f g).map intA) (e := intA x3) rfl (map_some hx3) <|
 .r 1 <| .alt (.call (rfind_spec g x3 (by omega)) <|
 .r 3 <| .new fun b7 => .run 2 [b7 = b7] ⟨rfl, trivial⟩ <|
 .run 2 [b6 = b6, b7 = b7] ⟨rfl, rfl, trivial⟩ <|
 .call (rnsame_spec (findN f x3) (findN g x3) (findN_ok okf _) (findN_ok okg _)) <|
 .r 1 <| .r 2 <| .br 73 (!(findB g x3)) (fun q10 => have q10 := notT q10; have p10 := booF q10; .r 3 <| .idx m (m := (m : Int)) (xs := (allNo f g).map intA) (e := intA x3) rfl (map_some hx3) <|
 .r 3 <| .app 80 V ((chgL f g m).map chgR) ([[aI x3, aB true, aI 0, aI 0, aI 0, aS ([]), aN]]) (by have := chgL_le f g m; simp only [List.length_map, List.length_cons, List.length_nil]; omega) (by have := chgL_le f g m; simp only [List.length_map, List.length_cons, List.length_nil]; omega) fun V7 =>
 .r 1 <| .run 3 [rng .i64 ((m : Int) + 1)] ⟨rng64 (by omega) (by omega), trivial⟩ <|
 .back L3 (m, V) ((m + 1), V7) (show (m + 1) ≤ (allNo f g).length from (by show _ ≤ _; omega)) (show (allNo f g).length - (m + 1) < (allNo f g).length - m from (by omega)) ⟨[(2, .ptr 2 b1 0), (3, .ptr 3 b2 0), (9, aI ((m : Int) + 1)), (8, .rw 8 V7 (((chgL f g m).map chgR).length + ([[aI x3, aB true, aI 0, aI 0, aI 0, aS ([]), aN]] : List (List AV)).length)), (5, .sl 1 false ((allNo f g).map intA))], [(2, .box b1 31 [.sl 5 false (f.l.map nodA), aI f.next]), (3, .box b2 31 [.sl 5 false (g.l.map nodA), aI g.next]), (8, .row V7 45 7 (((chgL f g m).map chgR) ++ ([[aI x3, aB true, aI 0, aI 0, aI 0, aS ([]), aN]])))]⟩ ⟨Sub.refl _, Sub.refl _, Sub.of_eq (congrArg aI (by first | omega | rfl)), Sub.of_eq (congrArg (AV.rw 8 V7) (by rw [chgL_yes hx3 (show chgD f g x3 = some ⟨x3, true, nod0⟩ from by unfold chgD; rw [if_pos q10])]; simp)), Sub.refl _, trivial⟩ ⟨⟨_, rfl, SubB.refl _⟩, ⟨_, rfl, SubB.refl _⟩, ⟨_, rfl, SubB.of_eq (by rw [chgL_yes hx3 (show chgD f g x3 = some ⟨x3, true, nod0⟩ from by unfold chgD; rw [if_pos q10])]; simp [chgR, nod0])⟩, trivial⟩)
 <| fun q10 => have q10 := notF q10; have p10 := booT q10; .r 3 <| .br 84 (!(findB f x3)) (fun q11 => have q11 := notT q11; have p11 := booF q11; .r 3 <| .ord [0, 1, 2, 3, 4, 5, 6, 7, 8, 9] <| .r 3 <| .idx m (m := (m : Int)) (xs := (allNo f g).map intA) (e := intA x3) rfl (map_some hx3) <|
 .run 4 [b7 = b7] ⟨rfl, trivial⟩ <|
 .app 80 V ((chgL f g m).map chgR) ([[aI x3, aB false, aI ((findN g x3).ino), aI ((findN g x3).kind), aI ((findN g x3).links), aS ((findN g x3).text), .sl 2 false ((findN g x3).l.map entA)]]) (by have := chgL_le f g m; simp only [List.length_map, List.length_cons, List.length_nil]; omega) (by have := chgL_le f g m; simp only [List.length_map, List.length_cons, List.length_nil]; omega) fun V8 =>
 .r 1 <| .run 3 [rng .i64 ((m : Int) + 1)] ⟨rng64 (by omega) (by omega), trivial⟩ <|
 .back L3 (m, V) ((m + 1), V8) (show (m + 1) ≤ (allNo f g).length from (by show _ ≤ _; omega)) (show (allNo f g).length - (m + 1) < (allNo f g).length - m from (by omega)) ⟨[(2, .ptr 2 b1 0), (3, .ptr 3 b2 0), (9, aI ((m : Int) + 1)), (8, .rw 8 V8 (((chgL f g m).map chgR).length + ([[aI x3, aB false, aI ((findN g x3).ino), aI ((findN g x3).kind), aI ((findN g x3).links), aS ((findN g x3).text), .sl 2 false ((findN g x3).l.map entA)]] : List (List AV)).length)), (5, .sl 1 false ((allNo f g).map intA))], [(2, .box b1 31 [.sl 5 false (f.l.map nodA), aI f.next]), (3, .box b2 31 [.sl 5 false (g.l.map nodA), aI g.next]), (8, .row V8 45 7 (((chgL f g m).map chgR) ++ ([[aI x3, aB false, aI ((findN g x3).ino), aI ((findN g x3).kind), aI ((findN g x3).links), aS ((findN g x3).text), .sl 2 false ((findN g x3).l.map entA)]])))]⟩ ⟨Sub.refl _, Sub.refl _, Sub.of_eq (congrArg aI (by first | omega | rfl)), Sub.of_eq (congrArg (AV.rw 8 V8) (by rw [chgL_yes hx3 (show chgD f g x3 = some ⟨x3, false, findN g x3⟩ from by unfold chgD; rw [if_neg (by simp [q10]), if_pos (.inl q11)])]; simp)), Sub.refl _, trivial⟩ ⟨⟨_, rfl, SubB.refl _⟩, ⟨_, rfl, SubB.refl _⟩, ⟨_, rfl, SubB.of_eq (by rw [chgL_yes hx3 (show chgD f g x3 = some ⟨x3, false, findN g x3⟩ from by unfold chgD; rw [if_neg (by simp [q10]), if_pos (.inl q11)])]; simp [chgR])⟩, trivial⟩)
 <| fun q11 => have q11 := notF q11; have p11 := booT q11; .r 3 <| .br 87 (!(dP ((findN f x3) = (findN g x3)))) (fun q12 => have q12 := notT q12; have p12 := booF q12; .ord [0, 1, 2, 3, 4, 5, 6, 7, 8, 9] <| .r 3 <| .idx m (m := (m : Int)) (xs := (allNo f g).map intA) (e := intA x3) rfl (map_some hx3) <|
 .run 4 [b7 = b7] ⟨rfl, trivial⟩ <|
 .app 80 V ((chgL f g m).map chgR) ([[aI x3, aB false, aI ((findN g x3).ino), aI ((findN g x3).kind), aI ((findN g x3).links), aS ((findN g x3).text), .sl 2 false ((findN g x3).l.map entA)]]) (by have := chgL_le f g m; simp only [List.length_map, List.length_cons, List.length_nil]; omega) (by have := chgL_le f g m; simp only [List.length_map, List.length_cons, List.length_nil]; omega) fun V9 =>
 .r 1 <| .run 3 [rng .i64 ((m : Int) + 1)] ⟨rng64 (by omega) (by omega), trivial⟩ <|
 .back L3 (m, V) ((m + 1), V9) (show (m + 1) ≤ (allNo f g).length from (by show _ ≤ _; omega)) (show (allNo f g).length - (m + 1) < (allNo f g).length - m from (by omega)) ⟨[(2, .ptr 2 b1 0), (3, .ptr 3 b2 0), (9, aI ((m : Int) + 1)), (8, .rw 8 V9 (((chgL f g m).map chgR).length + ([[aI x3, aB false, aI ((findN g x3).ino), aI ((findN g x3).kind), aI ((findN g x3).links), aS ((findN g x3).text), .sl 2 false ((findN g x3).l.map entA)]] : List (List AV)).length)), (5, .sl 1 false ((allNo f g).map intA))], [(2, .box b1 31 [.sl 5 false (f.l.map nodA), aI f.next]), (3, .box b2 31 [.sl 5 false (g.l.map nodA), aI g.next]), (8, .row V9 45 7 (((chgL f g m).map chgR) ++ ([[aI x3, aB false, aI ((findN g x3).ino), aI ((findN g x3).kind), aI ((findN g x3).links), aS ((findN g x3).text), .sl 2 false ((findN g x3).l.map entA)]])))]⟩ ⟨Sub.refl _, Sub.refl _, Sub.of_eq (congrArg aI (by first | omega | rfl)), Sub.of_eq (congrArg (AV.rw 8 V9) (by rw [chgL_yes hx3 (show chgD f g x3 = some ⟨x3, false, findN g x3⟩ from by unfold chgD; rw [if_neg (by simp [q10]), if_pos (.inr (dP_false.1 q12))])]; simp)), Sub.refl _, trivial⟩ ⟨⟨_, rfl, SubB.refl _⟩, ⟨_, rfl, SubB.refl _⟩, ⟨_, rfl, SubB.of_eq (by rw [chgL_yes hx3 (show chgD f g x3 = some ⟨x3, false, findN g x3⟩ from by unfold chgD; rw [if_neg (by simp [q10]), if_pos (.inr (dP_false.1 q12))])]; simp [chgR])⟩, trivial⟩)
 <| fun q12 => have q12 := notF q12; have p12 := booT q12; .run 3 [rng .i64 ((m : Int) + 1)] ⟨rng64 (by omega) (by omega), trivial⟩ <|
 .back L3 (m, V) ((m + 1), V) (show (m + 1) ≤ (allNo f g).length from (by show _ ≤ _; omega)) (show (allNo f g).length - (m + 1) < (allNo f g).length - m from (by omega)) ⟨[(2, .ptr 2 b1 0), (3, .ptr 3 b2 0), (9, aI ((m : Int) + 1)), (8, .rw 8 V ((chgL f g m).length)), (5, .sl 1 false ((allNo f g).map intA))], [(2, .box b1 31 [.sl 5 false (f.l.map nodA), aI f.next]), (3, .box b2 31 [.sl 5 false (g.l.map nodA), aI g.next]), (8, .row V 45 7 ((chgL f g m).map chgR))]⟩ ⟨Sub.refl _, Sub.refl _, Sub.of_eq (congrArg aI (by first | omega | rfl)), Sub.of_eq (congrArg (AV.rw 8 V) (by rw [chgL_no hx3 (show chgD f g x3 = none from by unfold chgD; rw [if_neg (by simp [q10]), if_neg (fun h => h.elim (fun h => by rw [q11] at h; cases h) (fun h => h (dP_true.1 q12)))])])), Sub.refl _, trivial⟩ ⟨⟨_, rfl, SubB.refl _⟩, ⟨_, rfl, SubB.refl _⟩, ⟨_, rfl, SubB.of_eq (by rw [chgL_no hx3 (show chgD f g x3 = none from by unfold chgD; rw [if_neg (by simp [q10]), if_neg (fun h => h.elim (fun h => by rw [q11] at h; cases h) (fun h => h (dP_true.1 q12)))])])⟩, trivial⟩)
 <| .new fun b8 => .call (rfind_spec g x3 (by omega)) <|
 .run 5 [b8 = b8] ⟨rfl, trivial⟩ <|
 .run 2 [b6 = b6, b8 = b8] ⟨rfl, rfl, trivial⟩ <|
 .call (rnsame_spec (findN f x3) (findN g x3) (findN_ok okf _) (findN_ok okg _)) <|
 .r 1 <| .r 2 <| .br 73 (!(findB g x3)) (fun q13 => have q13 := notT q13; have p13 := booF q13; .r 3 <| .idx m (m := (m : Int)) (xs := (allNo f g).map intA) (e := intA x3) rfl (map_some hx3) <|
 .r 3 <| .app 80 V ((chgL f g m).map chgR) ([[aI x3, aB true, aI 0, aI 0, aI 0, aS ([]), aN]]) (by have := chgL_le f g m; simp only [List.length_map, List.length_cons, List.length_nil]; omega) (by have := chgL_le f g m; simp only [List.length_map, List.length_cons, List.length_nil]; omega) fun V10 =>
 .r 1 <| .run 3 [rng .i64 ((m : Int) + 1)] ⟨rng64 (by omega) (by omega), trivial⟩ <|
 .back L3 (m, V) ((m + 1), V10) (show (m + 1) ≤ (allNo f g).length from (by show _ ≤ _; omega)) (show (allNo f g).length - (m + 1) < (allNo f g).length - m from (by omega)) ⟨[(2, .ptr 2 b1 0), (3, .ptr 3 b2 0), (9, aI ((m : Int) + 1)), (8, .rw 8 V10 (((chgL f g m).map chgR).length + ([[aI x3, aB true, aI 0, aI 0, aI 0, aS ([]), aN]] : List (List AV)).length)), (5, .sl 1 false ((allNo f g).map intA))], [(2, .box b1 31 [.sl 5 false (f.l.map nodA), aI f.next]), (3, .box b2 31 [.sl 5 false (g.l.map nodA), aI g.next]), (8, .row V10 45 7 (((chgL f g m).map chgR) ++ ([[aI x3, aB true, aI 0, aI 0, aI 0, aS ([]), aN]])))]⟩ ⟨Sub.refl _, Sub.refl _, Sub.of_eq (congrArg aI (by first | omega | rfl)), Sub.of_eq (congrArg (AV.rw 8 V10) (by rw [chgL_yes hx3 (show chgD f g x3 = some ⟨x3, true, nod0⟩ from by unfold chgD; rw [if_pos q13])]; simp)), Sub.refl _, trivial⟩ ⟨⟨_, rfl, SubB.refl _⟩, ⟨_, rfl, SubB.refl _⟩, ⟨_, rfl, SubB.of_eq (by rw [chgL_yes hx3 (show chgD f g x3 = some ⟨x3, true, nod0⟩ from by unfold chgD; rw [if_pos q13])]; simp [chgR, nod0])⟩, trivial⟩)
 <| fun q13 => have q13 := notF q13; have p13 := booT q13; .r 3 <| .br 84 (!(findB f x3)) (fun q14 => have q14 := notT q14; have p14 := booF q14; .r 3 <| .ord [0, 1, 2, 3, 4, 5, 6, 7, 8, 9] <| .r 3 <| .idx m (m := (m : Int)) (xs := (allNo f g).map intA) (e := intA x3) rfl (map_some hx3) <|
 .run 4 [b8 = b8] ⟨rfl, trivial⟩ <|
 .app 80 V ((chgL f g m).map chgR) ([[aI x3, aB false, aI ((findN g x3).ino), aI ((findN g x3).kind), aI ((findN g x3).links), aS ((findN g x3).text), .sl 2 false ((findN g x3).l.map entA)]]) (by have := chgL_le f g m; simp only [List.length_map, List.length_cons, List.length_nil]; omega) (by have := chgL_le f g m; simp only [List.length_map, List.length_cons, List.length_nil]; omega) fun V11 =>
 .r 1 <| .run 3 [rng .i64 ((m : Int) + 1)] ⟨rng64 (by omega) (by omega), trivial⟩ <|
 .back L3 (m, V) ((m + 1), V11) (show (m + 1) ≤ (allNo f g).length from (by show _ ≤ _; omega)) (show (allNo f g).length - (m + 1) < (allNo f g).length - m from (by omega)) ⟨[(2, .ptr 2 b1 0), (3, .ptr 3 b2 0), (9, aI ((m : Int) + 1)), (8, .rw 8 V11 (((chgL f g m).map chgR).length + ([[aI x3, aB false, aI ((findN g x3).ino), aI ((findN g x3).kind), aI ((findN g x3).links), aS ((findN g x3).text), .sl 2 false ((findN g x3).l.map entA)]] : List (List AV)).length)), (5, .sl 1 false ((allNo f g).map intA))], [(2, .box b1 31 [.sl 5 false (f.l.map nodA), aI f.next]), (3, .box b2 31 [.sl 5 false (g.l.map nodA), aI g.next]), (8, .row V11 45 7 (((chgL f g m).map chgR) ++ ([[aI x3, aB false, aI ((findN g x3).ino), aI ((findN g x3).kind), aI ((findN g x3).links), aS ((findN g x3).text), .sl 2 false ((findN g x3).l.map entA)]])))]⟩ ⟨Sub.refl _, Sub.refl _, Sub.of_eq (congrArg aI (by first | omega | rfl)), Sub.of_eq (congrArg (AV.rw 8 V11) (by rw [chgL_yes hx3 (show chgD f g x3 = some ⟨x3, false, findN g x3⟩ from by unfold chgD; rw [if_neg (by simp [q13]), if_pos (.inl q14)])]; simp)), Sub.refl _, trivial⟩ ⟨⟨_, rfl, SubB.refl _⟩, ⟨_, rfl, SubB.refl _⟩, ⟨_, rfl, SubB.of_eq (by rw [chgL_yes hx3 (show chgD f g x3 = some ⟨x3, false, findN g x3⟩ from by unfold chgD; rw [if_neg (by simp [q13]), if_pos (.inl q14)])]; simp [chgR])⟩, trivial⟩)
 <| fun q14 => have q14 := notF q14; have p14 := booT q14; .r 3 <| .br 87 (!(dP ((findN f x3) = (findN g x3)))) (fun q15 => have q15 := notT q15; have p15 := booF q15; .ord [0, 1, 2, 3, 4, 5, 6, 7, 8, 9] <| .r 3 <| .idx m (m := (m : Int)) (xs := (allNo f g).map intA) (e := intA x3) rfl (map_some hx3) <|
 .run 4 [b8 = b8] ⟨rfl, trivial⟩ <|
 .app 80 V ((chgL f g m).map chgR) ([[aI x3, aB false, aI ((findN g x3).ino), aI ((findN g x3).kind), aI ((findN g x3).links), aS ((findN g x3).text), .sl 2 false ((findN g x3).l.map entA)]]) (by have := chgL_le f g m; simp only [List.length_map, List.length_cons, List.length_nil]; omega) (by have := chgL_le f g m; simp only [List.length_map, List.length_cons, List.length_nil]; omega) fun V12 =>
 .r 1 <| .run 3 [rng .i64 ((m : Int) + 1)] ⟨rng64 (by omega) (by omega), trivial⟩ <|
 .back L3 (m, V) ((m + 1), V12) (show (m + 1) ≤ (allNo f g).length from (by show _ ≤ _; omega)) (show (allNo f g).length - (m + 1) < (allNo f g).length - m from (by omega)) ⟨[(2, .ptr 2 b1 0), (3, .ptr 3 b2 0), (9, aI ((m : Int) + 1)), (8, .rw 8 V12 (((chgL f g m).map chgR).length + ([[aI x3, aB false, aI ((findN g x3).ino), aI ((findN g x3).kind), aI ((findN g x3).links), aS ((findN g x3).text), .sl 2 false ((findN g x3).l.map entA)]] : List (List AV)).length)), (5, .sl 1 false ((allNo f g).map intA))], [(2, .box b1 31 [.sl 5 false (f.l.map nodA), aI f.next]), (3, .box b2 31 [.sl 5 false (g.l.map nodA), aI g.next]), (8, .row V12 45 7 (((chgL f g m).map chgR) ++ ([[aI x3, aB false, aI ((findN g x3).ino), aI ((findN g x3).kind), aI ((findN g x3).links), aS ((findN g x3).text), .sl 2 false ((findN g x3).l.map entA)]])))]⟩ ⟨Sub.refl _, Sub.refl _, Sub.of_eq (congrArg aI (by first | omega | rfl)), Sub.of_eq (congrArg (AV.rw 8 V12) (by rw [chgL_yes hx3 (show chgD f g x3 = some ⟨x3, false, findN g x3⟩ from by unfold chgD; rw [if_neg (by simp [q13]), if_pos (.inr (dP_false.1 q15))])]; simp)), Sub.refl _, trivial⟩ ⟨⟨_, rfl, SubB.refl _⟩, ⟨_, rfl, SubB.refl _⟩, ⟨_, rfl, SubB.of_eq (by rw [chgL_yes hx3 (show chgD f g x3 = some ⟨x3, false, findN g x3⟩ from by unfold chgD; rw [if_neg (by simp [q13]), if_pos (.inr (dP_false.1 q15))])]; simp [chgR])⟩, trivial⟩)
 <| fun q15 => have q15 := notF q15; have p15 := booT q15; .run 3 [rng .i64 ((m : Int) + 1)] ⟨rng64 (by omega) (by omega), trivial⟩ <|
 .back L3 (m, V) ((m + 1), V) (show (m + 1) ≤ (allNo f g).length from (by show _ ≤ _; omega)) (show (allNo f g).length - (m + 1) < (allNo f g).length - m from (by omega)) ⟨[(2, .ptr 2 b1 0), (3, .ptr 3 b2 0), (9, aI ((m : Int) + 1)), (8, .rw 8 V ((chgL f g m).length)), (5, .sl 1 false ((allNo f g).map intA))], [(2, .box b1 31 [.sl 5 false (f.l.map nodA), aI f.next]), (3, .box b2 31 [.sl 5 false (g.l.map nodA), aI g.next]), (8, .row V 45 7 ((chgL f g m).map chgR))]⟩ ⟨Sub.refl _, Sub.refl _, Sub.of_eq (congrArg aI (by first | omega | rfl)), Sub.of_eq (congrArg (AV.rw 8 V) (by rw [chgL_no hx3 (show chgD f g x3 = none from by unfold chgD; rw [if_neg (by simp [q13]), if_neg (fun h => h.elim (fun h => by rw [q14] at h; cases h) (fun h => h (dP_true.1 q15)))])])), Sub.refl _, trivial⟩ ⟨⟨_, rfl, SubB.refl _⟩, ⟨_, rfl, SubB.refl _⟩, ⟨_, rfl, SubB.of_eq (by rw [chgL_no hx3 (show chgD f g x3 = none from by unfold chgD; rw [if_neg (by simp [q13]), if_neg (fun h => h.elim (fun h => by rw [q14] at h; cases h) (fun h => h (dP_true.1 q15)))])])⟩, trivial⟩)
 <| fun q3 => have p3 := decF q3; .r 2 <| .frz 8 [4] [] [V = V, (chgL f g m).length = ((chgL f g m).map chgR).length] ⟨rfl, (by first | rfl | (simp; done) | (simp; omega)), trivial⟩ <|
 .fin (x := .sl 7 false ((chgL f g m).map chgR)) (r := .sl 7 false ((changesD f g).map chgA)) [] trivial (by
    rw [chgL_all (by omega)]
    exact chg_sub changes_gone)) a3.1 a3.2 ha3) a2 ha2) a1 ha1) Try.func22 rfl (by kernel_rfl) (by kernel_rfl)
end Go.Proofs.Ytibcmgmlklehdaa
