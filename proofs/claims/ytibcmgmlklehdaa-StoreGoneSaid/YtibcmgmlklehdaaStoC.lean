/- ref08.Find, ref11.With, ref11.Changes. -/
import Derived.Test.YtibcmgmlklehdaaStoZ
set_option linter.unusedVariables false
set_option linter.unusedSimpArgs false
namespace Go.Proofs.Ytibcmgmlklehdaa
open Go Go.RowKit Copyhold
structure Chg where
  ino : Int
  gone : Bool
  n : Nod
  deriving DecidableEq
def chgA (c : Chg) : List AV := [aI c.ino, aB c.gone, aI c.n.ino, aI c.n.kind, aI c.n.links, aS c.n.text, .sl 2 false (c.n.l.map entA)]
def chgR (c : Chg) : List AV := [aI c.ino, aB c.gone, aI c.n.ino, aI c.n.kind, aI c.n.links, aS c.n.text, bif c.gone then aN else .sl 2 false (c.n.l.map entA)]
theorem chg_sub {l : List Chg} {t : Bool} (h : ∀ c ∈ l, c.gone = true → c.n.l = []) : Sub (.sl 7 t (l.map chgR)) (.sl 7 false (l.map chgA)) :=
  (Sub.sl2 (xs := l.map chgR) (ys := l.map chgA) (by simp) (fun i a b ha hb => by
    rw [List.getElem?_map] at ha hb
    cases hc : l[i]? with
    | none => rw [hc] at ha; cases ha
    | some c =>
      rw [hc] at ha hb
      obtain rfl := Option.some.inj ha
      obtain rfl := Option.some.inj hb
      refine ⟨Sub.refl _, Sub.refl _, Sub.refl _, Sub.refl _, Sub.refl _, Sub.refl _, ?_, trivial⟩
      cases hg : c.gone with
      | false => exact Sub.refl _
      | true =>
        rw [h c (List.mem_of_getElem? hc) hg]
        exact Sub.nil _ _)).trans (Sub.loose _ _ _)
def isNo (i : Int) (n : Nod) : Bool := n.ino == i
def findB (f : Fsy) (i : Int) : Bool := f.l.any (isNo i)
def findN (f : Fsy) (i : Int) : Nod := (f.l.find? (isNo i)).getD nod0
theorem find_at {i : Int} : ∀ {l : List Nod} {k : Nat} {x : Nod}, AllTo (fun _ n => isNo i n = false) l k → l[k]? = some x → isNo i x = true → l.any (isNo i) = true ∧ l.find? (isNo i) = some x
  | y :: r, 0, x, _, hx, hp => by simp at hx; subst hx; simp [hp]
  | y :: r, k + 1, x, h, hx, hp => by
    have h1 := h 0 y (by omega) rfl
    obtain ⟨h2, h3⟩ := find_at (l := r) (k := k) (fun j e hj he => h (j + 1) e (by omega) (by simpa using he)) (by simpa using hx) hp
    simp [h1, h2, h3]
theorem find_no {i : Int} {l : List Nod} (h : AllQ (fun _ n => isNo i n = false) l) : l.any (isNo i) = false ∧ l.find? (isNo i) = none := by
  have h0 : ∀ x ∈ l, isNo i x = false := fun x hx => by obtain ⟨j, hj⟩ := List.getElem?_of_mem hx; exact h j x hj
  constructor
  · rw [List.any_eq_false]; intro x hx; simp [h0 x hx]
  · rw [List.find?_eq_none]; intro x hx; simp [h0 x hx]
set_option maxRecDepth 100000 in
set_option maxHeartbeats 4000000 in
theorem rfind_spec (f : Fsy) (i : Int) (hl : f.l.length ≤ 8796093022207) : FSpec Try.prog 24 [.agg [.sl 5 false (f.l.map nodA), aI f.next], aI i] (.tup [.agg (nodA (findN f i)), aB (findB f i)]) := by
  exact spec_vc (F := Try.f24) 400 (
 .new fun b1 => .new fun b2 => .r 1 <| .r 1 <| let L1 : Lp (Nat) := ⟨fun a1 => ⟨[(1, aI i), (2, .ptr 2 b1 0), (4, .ptr 4 b2 0), (6, aI (a1 : Int))], [(2, .box b1 31 [.sl 5 false (f.l.map nodA), aI f.next]), (4, .box b2 43 [aI 0, aI 0, aI 0, aS ([]), aN])]⟩, fun a1 => f.l.length - a1, fun a1 => a1 ≤ f.l.length ∧ AllTo (fun _ n => isNo i n = false) f.l a1⟩
 .loop L1 0 (show 0 ≤ f.l.length ∧ AllTo (fun _ n => isNo i n = false) f.l 0 from ⟨Nat.zero_le _, AllTo.zero _ _⟩) ⟨[(1, aI i), (2, .ptr 2 b1 0), (4, .ptr 4 b2 0), (6, aI 0)], [(2, .box b1 31 [.sl 5 false (f.l.map nodA), aI f.next]), (4, .box b2 43 [aI 0, aI 0, aI 0, aS ([]), aN])]⟩ ⟨Sub.refl _, Sub.refl _, Sub.refl _, Sub.of_eq (congrArg aI (by first | omega | rfl)), trivial⟩ ⟨⟨_, rfl, SubB.refl _⟩, ⟨_, rfl, SubB.refl _⟩, trivial⟩ fun a1 ha1 =>
 (fun (k : Nat) (hH1 : k ≤ f.l.length ∧ AllTo (fun _ n => isNo i n = false) f.l k) => .run 4 [b1 = b1] ⟨rfl, trivial⟩ <|
 .val 10 (show (aI ((f.l.map nodA).length : Int) : AV) = aI (f.l.length : Int) from by rw [List.length_map]) <| .r 1 <| .br 11 (decide ((k : Int) < (f.l.length : Int))) (fun q1 => have p1 := decT q1; .run 3 [b1 = b1] ⟨rfl, trivial⟩ <|
 .idxM f.l nodA k (m := (k : Int)) rfl (by omega) fun x1 hx1 =>
 .r 4 <| .br 21 (x1.ino == i) (fun q2 => have p2 := beqT q2; .run 3 [b1 = b1] ⟨rfl, trivial⟩ <|
 .idx k (m := (k : Int)) (xs := f.l.map nodA) (e := nodA x1) rfl (map_some hx1) <|
 .run 3 [b2 = b2] ⟨rfl, trivial⟩ <|
 .fin (x := .tup [.agg [aI x1.ino, aI x1.kind, aI x1.links, aS x1.text, .sl 2 false (x1.l.map entA)], aB true]) (r := .tup [.agg (nodA (findN f i)), aB (findB f i)]) [b2 = b2] ⟨rfl, trivial⟩ (by
    obtain ⟨e1, e2⟩ := find_at hH1.2 hx1 (by assumption)
    rw [show findN f i = x1 from by unfold findN; rw [e2]; rfl, show findB f i = true from e1]
    exact Sub.refl _))
 <| fun q2 => have p2 := beqF q2; .run 3 [rng .i64 ((k : Int) + 1)] ⟨rng64 (by omega) (by omega), trivial⟩ <|
 .back L1 k (k + 1) (show (k + 1) ≤ f.l.length ∧ AllTo (fun _ n => isNo i n = false) f.l (k + 1) from ⟨by omega, hH1.2.step hx1 (by assumption)⟩) (show f.l.length - (k + 1) < f.l.length - k from (by omega)) ⟨[(1, aI i), (2, .ptr 2 b1 0), (4, .ptr 4 b2 0), (6, aI ((k : Int) + 1))], [(2, .box b1 31 [.sl 5 false (f.l.map nodA), aI f.next]), (4, .box b2 43 [aI 0, aI 0, aI 0, aS ([]), aN])]⟩ ⟨Sub.refl _, Sub.refl _, Sub.refl _, Sub.of_eq (congrArg aI (by first | omega | rfl)), trivial⟩ ⟨⟨_, rfl, SubB.refl _⟩, ⟨_, rfl, SubB.refl _⟩, trivial⟩)
 <| fun q1 => have p1 := decF q1; .run 3 [b2 = b2] ⟨rfl, trivial⟩ <|
 .fin (x := .tup [.agg [aI 0, aI 0, aI 0, aS ([]), aN], aB false]) (r := .tup [.agg (nodA (findN f i)), aB (findB f i)]) [b2 = b2] ⟨rfl, trivial⟩ (by
    obtain ⟨e1, e2⟩ := find_no (hH1.2.full (by omega))
    rw [show findN f i = nod0 from by unfold findN; rw [e2]; rfl, show findB f i = false from e1]
    exact Sub.tups ⟨Sub.aggs ⟨Sub.refl _, Sub.refl _, Sub.refl _, Sub.refl _, Sub.nil _ _, trivial⟩, Sub.refl _, trivial⟩)) a1 ha1) Try.func24 rfl (by kernel_rfl) (by kernel_rfl)
end Go.Proofs.Ytibcmgmlklehdaa
