import Derived.Test.YtkhnialfkndiiaaGreatMrgL
import Derived.Test.YtkhnialfkndiiaaGreatMrgM
import Derived.Laws.IdiomRangeMap
import Derived.Test.YtkhnialfkndiiaaGreatMrgJ
import Derived.Deep.QuietTactic
import Derived.BigQuiet
import Derived.IntWalk
import Derived.Test.YtkhnialfkndiiaaGreatRows
import Derived.Test.YtkhnialfkndiiaaGreatMrgA
set_option maxRecDepth 100000
set_option maxHeartbeats 8000000
set_option linter.unusedVariables false
set_option linter.unusedSimpArgs false
namespace Go.Proofs.YtkhnialfkndiiaaGreat
open Go Go.RowKit Copyhold
def kidsF (f : Fsy) (i : Int) : List Int := if (findN f i).kind = 2 then (findN f i).l.map Ent.ino else []
theorem kids_ent {f : Fsy} {i z : Int} (h : z ∈ kidsF f i) : z ∈ inosF f := by
 unfold kidsF at h
 split at h
 ·obtain ⟨e, he, rfl⟩ := List.mem_map.1 h
  exact find_ent he
 ·cases h
def dfsF (f : Fsy) : Nat → Int → List Int → List Int
 | 0, _, U => U
 | n + 1, i, U => (kidsF f i).foldl (fun U z => if hasB U z = true then U else dfsF f n z (U ++ [z])) U
def upK (f : Fsy) (n : Nat) (i : Int) (U : List Int) (k : Nat) : List Int := ((kidsF f i).take k).foldl (fun U z => if hasB U z = true then U else dfsF f n z (U ++ [z])) U
theorem upK_yes {f : Fsy} {n : Nat} {i z : Int} {U : List Int} {k : Nat} (hz : (kidsF f i)[k]? = some z) (h : hasB (upK f n i U k) z = true) : upK f n i U (k + 1) = upK f n i U k := by
 unfold upK at h ⊢
 rw [take_step hz, List.foldl_append, List.foldl_cons, List.foldl_nil, if_pos h]
theorem upK_no {f : Fsy} {n : Nat} {i z : Int} {U : List Int} {k : Nat} (hz : (kidsF f i)[k]? = some z) (h : hasB (upK f n i U k) z = false) : upK f n i U (k + 1) = dfsF f n z (upK f n i U k ++ [z]) := by
 unfold upK at h ⊢
 rw [take_step hz, List.foldl_append, List.foldl_cons, List.foldl_nil, if_neg (by rw [h]; decide)]
theorem upK_all {f : Fsy} {n : Nat} {i : Int} {U : List Int} {k : Nat} (hk : (kidsF f i).length ≤ k) : upK f n i U k = dfsF f (n + 1) i U := by unfold upK; rw [take_all hk]; rfl
theorem kids_at {f : Fsy} {i : Int} {k : Nat} {x : Ent} (hk : (findN f i).kind = 2) (h : (findN f i).l[k]? = some x) : (kidsF f i)[k]? = some x.ino := by
 unfold kidsF
 rw [if_pos hk, List.getElem?_map, h]; rfl
theorem kids_len {f : Fsy} {i : Int} (hk : (findN f i).kind = 2) : (kidsF f i).length = (findN f i).l.length := by
 unfold kidsF
 rw [if_pos hk, List.length_map]
theorem kids_no {f : Fsy} {i : Int} (h : ¬ (findN f i).kind = 2) : kidsF f i = [] := if_neg h
theorem dfs_no {f : Fsy} {n : Nat} {i : Int} {U : List Int} (h : ¬ (findN f i).kind = 2) : dfsF f n i U = U := by
 cases n with
 | zero => rfl
 | succ n => show (kidsF f i).foldl _ U = U; rw [kids_no h]; rfl
theorem find_kind {f : Fsy} {i : Int} (h : findB f i = false) : ¬ (findN f i).kind = 2 := by
 unfold findB at h
 unfold findN
 rw [List.find?_eq_none.2 fun x hx => by simpa using List.any_eq_false.1 h x hx]
 decide
def remF (f : Fsy) (U : List Int) : Nat := (inosF f).countP fun z => !hasB U z
theorem hasB_app {U : List Int} {x z : Int} : hasB (U ++ [x]) z = (hasB U z || x == z) := by unfold hasB; simp
theorem count_le {α : Type} {p q : α → Bool} : ∀ {l : List α}, (∀ x ∈ l, p x = true → q x = true) → l.countP p ≤ l.countP q
 | [], _ => Nat.le_refl _
 | x :: r, h => by
  have ih := count_le (l := r) fun y hy => h y (by simp [hy])
  rw [List.countP_cons, List.countP_cons]
  have := h x (by simp)
  cases hp : p x <;> cases hq : q x <;> simp_all <;> omega
theorem count_lt {α : Type} {p q : α → Bool} : ∀ {l : List α} {z : α}, (∀ x ∈ l, p x = true → q x = true) → z ∈ l → p z = false → q z = true → l.countP p < l.countP q
 | x :: r, z, h, hz, h1, h2 => by
  rw [List.countP_cons, List.countP_cons]
  have hx := h x (by simp)
  rcases List.mem_cons.1 hz with e | hz
  ·rw [← e, h1, h2]
   have := count_le (l := r) fun y hy => h y (by simp [hy])
   simp
   omega
  ·have ih := count_lt (l := r) (fun y hy => h y (by simp [hy])) hz h1 h2
   cases hp : p x <;> cases hq : q x <;> simp_all <;> omega
theorem rem_mono {f : Fsy} {U V : List Int} (h : ∀ z, hasB U z = true → hasB V z = true) : remF f V ≤ remF f U := by
 refine count_le fun x _ hx => ?_
 cases hu : hasB U x with
 | false => rfl
 | true => rw [h x hu] at hx; cases hx
theorem rem_add {f : Fsy} {U : List Int} {z : Int} (hz : z ∈ inosF f) (h : hasB U z = false) : remF f (U ++ [z]) < remF f U := by
 refine count_lt (z := z) (fun x _ hx => ?_) hz (by rw [hasB_app]; simp) (by rw [h]; rfl)
 rw [hasB_app] at hx
 simp only [Bool.not_eq_true', Bool.or_eq_false_iff] at hx
 rw [hx.1]; rfl
theorem dfs_mono {f : Fsy} : ∀ (n : Nat) (i : Int) (U : List Int) (z : Int), hasB U z = true → hasB (dfsF f n i U) z = true
 | 0, _, _, _, h => h
 | n + 1, i, U, z, h => by
  show hasB ((kidsF f i).foldl _ U) z = true
  generalize kidsF f i = l
  induction l generalizing U with
  | nil => exact h
  | cons x r ih =>
   rw [List.foldl_cons]
   refine ih _ ?_
   split
   ·exact h
   ·exact dfs_mono n x _ z (by rw [hasB_app, h]; rfl)
theorem rem_dfs {f : Fsy} {n : Nat} {i : Int} {U : List Int} : remF f (dfsF f n i U) ≤ remF f U := rem_mono fun z h => dfs_mono n i U z h
inductive Reach (f : Fsy) : Int → Int → Prop where
 | one {i z : Int} : z ∈ kidsF f i → Reach f i z
 | more {i y z : Int} : y ∈ kidsF f i → Reach f y z → Reach f i z
theorem Reach.trans {f : Fsy} {a b c : Int} (h : Reach f a b) (h2 : Reach f b c) : Reach f a c := by
 induction h with
 | one h => exact .more h h2
 | more h _ ih => exact .more h (ih h2)
theorem Reach.snoc {f : Fsy} {a b c : Int} (h : Reach f a b) (h2 : c ∈ kidsF f b) : Reach f a c := h.trans (.one h2)
def Closed (f : Fsy) (U V : List Int) : Prop := ∀ z, hasB V z = true → hasB U z = false → ∀ y ∈ kidsF f z, hasB V y = true
theorem dfs_closed {f : Fsy} : ∀ (n : Nat) (i : Int) (U : List Int), remF f U < n →
  (∀ y ∈ kidsF f i, hasB (dfsF f n i U) y = true) ∧ Closed f U (dfsF f n i U) ∧ ∀ z, hasB (dfsF f n i U) z = true → hasB U z = true ∨ Reach f i z
 | 0, _, _, h => absurd h (Nat.not_lt_zero _)
 | n + 1, i, U, h => by
  have key : ∀ (l : List Int), (∀ y ∈ l, y ∈ kidsF f i) → ∀ (V : List Int), (∀ z, hasB U z = true → hasB V z = true) → Closed f U V → (∀ z, hasB V z = true → hasB U z = true ∨ Reach f i z) →
    let W := l.foldl (fun U z => if hasB U z = true then U else dfsF f n z (U ++ [z])) V
    (∀ z, hasB V z = true → hasB W z = true) ∧ (∀ y ∈ l, hasB W y = true) ∧ Closed f U W ∧ ∀ z, hasB W z = true → hasB U z = true ∨ Reach f i z := by
   intro l
   induction l with
   | nil => exact fun _ V _ h2 h3 => ⟨fun _ h => h, fun y hy => by (cases hy), h2, h3⟩
   | cons x r ih =>
    intro hl V h1 h2 h3
    simp only [List.foldl_cons]
    by_cases hx : hasB V x = true
    ·simp only [hx, if_true]
     obtain ⟨g0, g1, g2, g3⟩ := ih (fun y hy => hl y (by simp [hy])) V h1 h2 h3
     refine ⟨g0, fun y hy => ?_, g2, g3⟩
     rcases List.mem_cons.1 hy with e | hy
     ·rw [e]; exact g0 x hx
     ·exact g1 y hy
    ·rw [if_neg hx]
     have hx' : hasB V x = false := by simpa using hx
     have hr1 : remF f V ≤ remF f U := rem_mono (f := f) h1
     have hr2 := rem_add (f := f) (kids_ent (hl x (by simp))) hx'
     obtain ⟨d1, d2, d3⟩ := dfs_closed (f := f) n x (V ++ [x]) (by omega)
     have hm := dfs_mono (f := f) n x (V ++ [x])
     have hxx : hasB (dfsF f n x (V ++ [x])) x = true := hm x (by rw [hasB_app]; simp)
     obtain ⟨g0, g1, g2, g3⟩ := ih (fun y hy => hl y (by simp [hy])) (dfsF f n x (V ++ [x])) (fun z hz => hm z (by rw [hasB_app, h1 z hz]; rfl)) (fun z hz hu y hy => by
      by_cases hv : hasB V z = true
      ·exact hm y (by rw [hasB_app, h2 z hv hu y hy]; rfl)
      ·by_cases hzx : z = x
       ·rw [hzx] at hy; exact d1 y hy
       ·refine d2 z hz ?_ y hy
        rw [hasB_app]
        have e1 : hasB V z = false := by simpa using hv
        have e2 : (x == z) = false := by simpa using fun e => hzx (by rw [← e])
        rw [e1, e2]; rfl) (fun z hz => by
      rcases d3 z hz with hd | hd
      ·rw [hasB_app] at hd
       by_cases hv : hasB V z = true
       ·exact h3 z hv
       ·have e : x = z := by simpa [hv] using hd
        rw [← e]
        exact .inr (.one (hl x (by simp)))
      ·exact .inr (.more (hl x (by simp)) hd))
     refine ⟨fun z hz => g0 z (hm z (by rw [hasB_app, hz]; rfl)), fun y hy => ?_, g2, g3⟩
     rcases List.mem_cons.1 hy with e | hy
     ·rw [e]; exact g0 x hxx
     ·exact g1 y hy
  obtain ⟨_, g1, g2, g3⟩ := key (kidsF f i) (fun _ h => h) U (fun _ h => h) (fun z h1 h2 => by rw [h1] at h2; cases h2) (fun z h => .inl h)
  exact ⟨g1, g2, g3⟩
def reachF (f : Fsy) (i : Int) : List Int := dfsF f ((inosF f).length + 1) i []
theorem rem_nil (f : Fsy) : remF f [] < (inosF f).length + 1 := Nat.lt_succ_of_le List.countP_le_length
theorem reach_iff {f : Fsy} {i z : Int} : hasB (reachF f i) z = true ↔ Reach f i z := by
 obtain ⟨h1, h2, h3⟩ := dfs_closed _ i [] (rem_nil f)
 refine ⟨fun h => (h3 z h).resolve_left (by simp [hasB]), fun h => ?_⟩
 have main : ∀ a b, Reach f a b → (∀ y ∈ kidsF f a, hasB (reachF f i) y = true) → hasB (reachF f i) b = true := by
  intro a b hab
  induction hab with
  | one h => exact fun hk => hk _ h
  | more h _ ih => exact fun hk => ih fun y hy => h2 _ (hk _ h) rfl y hy
 exact main i z h h1
def setM (U : List Int) : List (MK × AV) := U.map fun z => (MK.i z, .agg [])
theorem setM_keys (U : List Int) : ∀ p ∈ setM U, ∃ z, p.1 = .i z := fun p hp => by
 obtain ⟨z, _, rfl⟩ := List.mem_map.1 hp
 exact ⟨z, rfl⟩
theorem setM_found : ∀ (U : List Int) (z : Int) (i : Nat), (mfind (.i z) (setM U) i).isSome = hasB U z ∧ ∀ j x, mfind (.i z) (setM U) i = some (j, x) → x = .agg []
 | [], z, i => ⟨rfl, fun j x h => by cases h⟩
 | y :: r, z, i => by
  obtain ⟨h1, h2⟩ := setM_found r z (i + 1)
  show (mfind (.i z) ((MK.i y, AV.agg []) :: setM r) i).isSome = _ ∧ ∀ j x, mfind (.i z) ((MK.i y, AV.agg []) :: setM r) i = some (j, x) → _
  unfold mfind
  by_cases hy : y = z
  ·subst hy
   simp only [if_true]
   exact ⟨by simp [hasB], fun j x h => by cases h; rfl⟩
  ·rw [if_neg (fun e => hy (by injection e))]
   refine ⟨?_, h2⟩
   rw [h1]
   unfold hasB
   have e : (y == z) = false := by simpa using hy
   rw [List.any_cons, e, Bool.false_or]
theorem unit_sub : Sub (.val (.agg #[])) (.agg []) := fun D w v h => by
 cases h
 exact .agg [] #[] rfl (fun j v h => by simp at h) (fun j x v h => by simp at h)
theorem setM_look (U : List Int) (z : Int) : lkS true (mfind (.i z) (setM U) 0) (.agg #[]) (.tup [.agg [], aB (hasB U z)]) := by
 obtain ⟨h1, h2⟩ := setM_found U z 0
 unfold lkS lkRes
 rw [if_pos rfl, h1]
 refine Sub.tups ⟨?_, sR, trivial⟩
 cases hm : mfind (.i z) (setM U) 0 with
 | none => exact unit_sub
 | some p =>
  obtain ⟨j, x⟩ := p
  rw [h2 j x hm]
  exact sR
theorem setM_put {U : List Int} {z : Int} (h : hasB U z = false) : mput (setM U) (.i z) (.agg []) = setM (U ++ [z]) := by
 obtain ⟨h1, h2⟩ := setM_found U z 0
 unfold mput
 cases hm : mfind (.i z) (setM U) 0 with
 | none => simp [setM]
 | some p => rw [hm, h] at h1; cases h1
theorem look_step (f : Fsy) (r : Nat) (okf : OkF f) (hl : f.l.length ≤ 100000) (hr : RiseN f.l) (m : Nat) (ih : ∀ (i : Int) (U : List Int), remF f U < m → LSpec2 Tryz.prog 170 [aI i, .dptr (fsyA f), .dptr [.mref 7 r], .dptr [CLn 170 [.dptr (fsyA f), .dptr [.mref 7 r]] m]] (.mp r (setM U)) (.tup []) (.mp r (setM (dfsF f m i U)))) (i : Int) (U : List Int) (h : remF f U < m + 1) : LSpec2 Tryz.prog 170 [aI i, .dptr (fsyA f), .dptr [.mref 7 r], .dptr [.clo 170 [.dptr (fsyA f), .dptr [.mref 7 r], .dptr [CLn 170 [.dptr (fsyA f), .dptr [.mref 7 r]] m]]]] (.mp r (setM U)) (.tup []) (.mp r (setM (dfsF f (m + 1) i U))) := by
 have hfb := (findN_ok okf i).2.2.2.2.1
 exact lspec2_vc (q := 7) (F := Tryz.f170) 400 (
 .r 2 <| .call (tfind_spec f i (by omega) hr) <|
 .r 3 <| .new fun b1 => .run 2 [b1 = b1] rt1 <|
 .r 3 <| .br 19 (!(findB f i)) (fun q1 => have q1 := notT q1; have p1 := booF q1; .r 4 <| .st (mpR 7) (r, setM U) (fun (_ : Unit) σ => σ.setB 7 (.mp r (setM (dfsF f (m + 1) i U)))) (rule_mp (by rw [dfs_no (find_kind q1)])) fun _ =>
 .finB (x := .tup []) (r := .tup []) [] trivial (.mp r (setM (dfsF f (m + 1) i U))) (by exact sR))
 <| fun q1 => have q1 := notF q1; have p1 := booT q1; .run 4 [b1 = b1] rt1 <|
 .br 23 (((findN f i).kind) != 2) (fun q2 => have p2 := bneT q2; .st (mpR 7) (r, setM U) (fun (_ : Unit) σ => σ.setB 7 (.mp r (setM (dfsF f (m + 1) i U)))) (rule_mp (by rw [dfs_no (by assumption)])) fun _ =>
 .finB (x := .tup []) (r := .tup []) [] trivial (.mp r (setM (dfsF f (m + 1) i U))) (by exact sR))
 <| fun q2 => have p2 := bneF q2; have hk : (findN f i).kind = 2 := (by simpa using q2); .run 3 [b1 = b1] rt1 <|
 .val 26 (show (aI (((findN f i).l.map entA).length : Int) : AV) = aI (((findN f i).l).length : Int) from by rw [List.length_map]) <| .r 1 <| let L1 : Lp (Nat) := ⟨fun a1 => ⟨[(2, .dptr [.mref 7 r]), (3, .dptr [.clo 170 [.dptr (fsyA f), .dptr [.mref 7 r], .dptr [CLn 170 [.dptr (fsyA f), .dptr [.mref 7 r]] m]]]), (25, .sl 2 false ((findN f i).l.map entA)), (26, aI (((findN f i).l).length : Int)), (27, aI (a1 : Int))], [(7, .mp r (setM (upK f m i U a1)))]⟩, fun a1 => (findN f i).l.length - a1, fun a1 => a1 ≤ (findN f i).l.length ∧ remF f (upK f m i U a1) < m + 1⟩
 .loop L1 0 (show 0 ≤ (findN f i).l.length ∧ remF f (upK f m i U 0) < m + 1 from ⟨Nat.zero_le _, h⟩) ⟨[(2, .dptr [.mref 7 r]), (3, .dptr [.clo 170 [.dptr (fsyA f), .dptr [.mref 7 r], .dptr [CLn 170 [.dptr (fsyA f), .dptr [.mref 7 r]] m]]]), (25, .sl 2 false ((findN f i).l.map entA)), (26, aI (((findN f i).l).length : Int)), (27, aI 0)], [(7, .mp r (setM U))]⟩ ⟨sR, sR, sR, sR, Sub.of_eq (congrArg aI (by first | omega | rfl)), trivial⟩ ⟨⟨_, rfl, SubB.of_eq rfl⟩, trivial⟩ fun a1 ha1 =>
 (fun (k : Nat) (hH1 : k ≤ (findN f i).l.length ∧ remF f (upK f m i U k) < m + 1) => .r 1 <| .br 28 (decide ((k : Int) < (((findN f i).l).length : Int))) (fun q3 => have p3 := decT q3; .idxM ((findN f i).l) entA k (m := (k : Int)) rfl (by omega) fun x1 hx1 =>
 .r 1 <| .new fun b2 => .run 1 [b2 = b2] rt1 <|
 .run 3 [b2 = b2] rt1 <|
 .op (lkRB Tryz.prog) ((3, some (.agg #[])), (7, r, r, setM (upK f m i U k)), .i x1.ino, true, some 35) (fun (_ : Unit) σ => σ.put (some 35) (.tup [.agg [], aB (hasB (upK f m i U k) x1.ino)])) (rule_lookB (mfind (.i x1.ino) (setM (upK f m i U k)) 0) (keys_i (by kernel_rfl) _ (setM_keys (upK f m i U k))) (by kernel_rfl) rfl (setM_look (upK f m i U k) x1.ino)) fun _ =>
 .r 3 <| .new fun b3 => .run 2 [b3 = b3] rt1 <|
 .r 1 <| .br 38 (hasB (upK f m i U k) x1.ino) (fun q4 => have p4 := booT q4; .run 2 [rng .i64 ((k : Int) + 1)] ⟨rng64 (by omega) (by omega), trivial⟩ <|
 .back L1 k (k + 1) (show (k + 1) ≤ (findN f i).l.length ∧ remF f (upK f m i U (k + 1)) < m + 1 from ⟨by omega, by rw [upK_yes (kids_at hk hx1) q4]; exact hH1.2⟩) (show (findN f i).l.length - (k + 1) < (findN f i).l.length - k from (by omega)) ⟨[(2, .dptr [.mref 7 r]), (3, .dptr [.clo 170 [.dptr (fsyA f), .dptr [.mref 7 r], .dptr [CLn 170 [.dptr (fsyA f), .dptr [.mref 7 r]] m]]]), (25, .sl 2 false ((findN f i).l.map entA)), (26, aI (((findN f i).l).length : Int)), (27, aI ((k : Int) + 1))], [(7, .mp r (setM (upK f m i U k)))]⟩ ⟨sR, sR, sR, sR, Sub.of_eq (congrArg aI (by first | omega | rfl)), trivial⟩ ⟨⟨_, rfl, SubB.of_eq (by rw [upK_yes (kids_at hk hx1) q4])⟩, trivial⟩)
 <| fun q4 => have p4 := booF q4; .run 4 [b2 = b2] rt1 <|
 .op (insR Tryz.prog) (3, (7, r, r, setM (upK f m i U k)), .i x1.ino, AV.agg []) (fun (_ : Unit) σ => σ.setB 7 (.mp r (setM ((upK f m i U k) ++ [x1.ino])))) (rule_putG (keys_i (by kernel_rfl) _ (setM_keys (upK f m i U k))) (by kernel_rfl) (setM_put q4)) fun _ =>
 .lent 3 <| .run 3 [b2 = b2] rt1 <|
 .lop (lcR Tryz.prog 7) ((170, [aI x1.ino, .dptr (fsyA f), .dptr [.mref 7 r], .dptr [CLn 170 [.dptr (fsyA f), .dptr [.mref 7 r]] m]], some 46), .mp r (setM ((upK f m i U k) ++ [x1.ino]))) (fun (_ : Unit) σ => (σ.put (some 46) (.tup [])).setB 7 (.mp r (setM (dfsF f m x1.ino ((upK f m i U k) ++ [x1.ino]))))) (rule_lent2 (args' := [aI x1.ino, .dptr (fsyA f), .dptr [.mref 7 r], .dptr [CLn 170 [.dptr (fsyA f), .dptr [.mref 7 r]] m]]) sr4 (ih x1.ino ((upK f m i U k) ++ [x1.ino]) (by have := rem_add (f := f) (kids_ent (List.mem_of_getElem? (kids_at hk hx1))) q4; omega))) fun _ =>
 .run 2 [rng .i64 ((k : Int) + 1)] ⟨rng64 (by omega) (by omega), trivial⟩ <|
 .back L1 k (k + 1) (show (k + 1) ≤ (findN f i).l.length ∧ remF f (upK f m i U (k + 1)) < m + 1 from ⟨by omega, by rw [upK_no (kids_at hk hx1) q4]; have := rem_dfs (f := f) (n := m) (i := x1.ino) (U := upK f m i U k ++ [x1.ino]); have := rem_add (f := f) (kids_ent (List.mem_of_getElem? (kids_at hk hx1))) q4; omega⟩) (show (findN f i).l.length - (k + 1) < (findN f i).l.length - k from (by omega)) ⟨[(2, .dptr [.mref 7 r]), (3, .dptr [.clo 170 [.dptr (fsyA f), .dptr [.mref 7 r], .dptr [CLn 170 [.dptr (fsyA f), .dptr [.mref 7 r]] m]]]), (25, .sl 2 false ((findN f i).l.map entA)), (26, aI (((findN f i).l).length : Int)), (27, aI ((k : Int) + 1))], [(7, .mp r (setM (dfsF f m x1.ino ((upK f m i U k) ++ [x1.ino]))))]⟩ ⟨sR, sR, sR, sR, Sub.of_eq (congrArg aI (by first | omega | rfl)), trivial⟩ ⟨⟨_, rfl, SubB.of_eq (by rw [upK_no (kids_at hk hx1) q4])⟩, trivial⟩)
 <| fun q3 => have p3 := decF q3; .st (mpR 7) (r, setM (upK f m i U k)) (fun (_ : Unit) σ => σ.setB 7 (.mp r (setM (dfsF f (m + 1) i U)))) (rule_mp (by rw [upK_all (by rw [kids_len hk]; omega)])) fun _ =>
 .finB (x := .tup []) (r := .tup []) [] trivial (.mp r (setM (dfsF f (m + 1) i U))) (by exact sR)) a1 ha1) Tryz.func170 rfl (by kernel_rfl) (by kernel_rfl)
theorem look_all (f : Fsy) (r : Nat) (okf : OkF f) (hl : f.l.length ≤ 100000) (hr : RiseN f.l) : ∀ (m : Nat) (i : Int) (U : List Int), remF f U < m → LSpec2 Tryz.prog 170 [aI i, .dptr (fsyA f), .dptr [.mref 7 r], .dptr [CLn 170 [.dptr (fsyA f), .dptr [.mref 7 r]] m]] (.mp r (setM U)) (.tup []) (.mp r (setM (dfsF f m i U)))
 | 0, _, _, h => absurd h (Nat.not_lt_zero _)
 | m + 1, i, U, h => look_step f r okf hl hr m (look_all f r okf hl hr m) i U h
theorem reach_spec (f : Fsy) (i : Int) (okf : OkF f) (hl : f.l.length ≤ 100000) (hr : RiseN f.l) : FSpec Tryz.prog 162 [.agg (fsyA f), aI i] (.mp (setM (reachF f i))) := by
 exact spec_vc (F := Tryz.f162) 400 (
 .new fun b1 => .r 1 <| .mkMap fun r2 => .new fun b3 => .run 1 [b3 = b3] rt1 <|
 .new fun b4 => .run 2 [b4 = b4] rt1 <|
 .frz 2 [1, 4, 5, 6] [7, 5, 6] [b1 = b1] rt1 <|
 .frz 5 [1, 4, 5, 6] [7, 6] [b3 = b3, b3 = b3] rt2 <|
 .st (fun s => (recR 6 s).map fun x => (x, lget s.tm 6)) ((b4, 192, 170, [.dptr (fsyA f), .dptr [.mref 7 r2]], 6, b4), .ptr 6 b4 0) (fun (_ : Unit) σ => recS 6 6 (CLn 170 [.dptr (fsyA f), .dptr [.mref 7 r2]] (((inosF f).length + 1) + 1)) [1, 4, 5] [7] σ) (rule_rec (((inosF f).length + 1) + 1) [1, 4, 5] [7]) fun _ =>
 .lent 2 <| .r 2 <| .lop (lcR Tryz.prog 7) ((170, [aI i, .dptr (fsyA f), .dptr [.mref 7 r2], .dptr [CLn 170 [.dptr (fsyA f), .dptr [.mref 7 r2]] ((inosF f).length + 1)]], some 11), .mp r2 []) (fun (_ : Unit) σ => (σ.put (some 11) (.tup [])).setB 7 (.mp r2 (setM (reachF f i)))) (rule_lent2 (args' := [aI i, .dptr (fsyA f), .dptr [.mref 7 r2], .dptr [CLn 170 [.dptr (fsyA f), .dptr [.mref 7 r2]] ((inosF f).length + 1)]]) sr4 (look_all f r2 okf hl hr ((inosF f).length + 1) i [] (rem_nil f))) fun _ =>
 .r 2 <| .frz 7 [4] [] [r2 = r2] rt1 <|
 .fin (x := .mp (setM (reachF f i))) (r := .mp (setM (reachF f i))) [] trivial (by exact sR)) Tryz.func162 rfl (by kernel_rfl) (by kernel_rfl)
theorem below_spec (f : Fsy) (i j : Int) (okf : OkF f) (hl : f.l.length ≤ 100000) (hr : RiseN f.l) : FSpec Tryz.prog 143 [.agg (fsyA f), aI i, aI j] (aB (hasB (reachF f j) i)) := by
 exact spec_vc (F := Tryz.f143) 400 (
 .new fun b1 => .r 1 <| .run 2 [b1 = b1] rt1 <|
 .call (reach_spec f j okf hl hr) <|
 .r 1 <| .op (lkRO Tryz.prog) ((3, some (.agg #[])), setM (reachF f j), .i i, true, some 14) (fun (_ : Unit) σ => σ.put (some 14) (.tup [.agg [], aB (hasB (reachF f j) i)])) (rule_lookO (mfind (.i i) (setM (reachF f j)) 0) (keys_i (by kernel_rfl) _ (setM_keys (reachF f j))) (by kernel_rfl) rfl (setM_look (reachF f j) i)) fun _ =>
 .r 3 <| .new fun b2 => .run 2 [b2 = b2] rt1 <|
 .r 2 <| .fin (x := aB (hasB (reachF f j) i)) (r := aB (hasB (reachF f j) i)) [] trivial (by exact sR)) Tryz.func143 rfl (by kernel_rfl) (by kernel_rfl)
def cntI : List (Int × Nat) → Int → List (Int × Nat)
 | [], z => [(z, 1)]
 | p :: r, z => if p.1 = z then (p.1, p.2 + 1) :: r else p :: cntI r z
def cntM (L : List (Int × Nat)) : List (MK × AV) := L.map fun p => (MK.i p.1, aI (p.2 : Int))
def cntEs (L : List (Int × Nat)) (l : List Ent) : List (Int × Nat) := l.foldl (fun L e => cntI L e.ino) L
def cntNs (L : List (Int × Nat)) (l : List Nod) : List (Int × Nat) := l.foldl (fun L n => if n.kind = 2 then cntEs L n.l else L) L
def countF (f : Fsy) : List (Int × Nat) := cntNs [] f.l
def keyT (f : Fsy) (z : Int) : Prop := findB f z = true ∧ ¬ z = 1
def SeenT (f : Fsy) (sn : List Nat) : Prop := sn.Nodup ∧ (∀ j ∈ sn, j < (countF f).length) ∧ ∀ j ∈ sn, ∀ p, (countF f)[j]? = some p → keyT f p.1
theorem SeenT.nil (f : Fsy) : SeenT f [] := ⟨List.nodup_nil, fun j h => (by cases h), fun j h => (by cases h)⟩
theorem SeenT.more {f : Fsy} {sn : List Nat} {j : Nat} {y : Int × Nat} (h : SeenT f sn) (hl : j < (countF f).length) (hn : j ∉ sn) (hy : (countF f)[j]? = some y) (hk : keyT f y.1) : SeenT f (j :: sn) := by
 refine ⟨List.nodup_cons.2 ⟨hn, h.1⟩, fun k hk' => ?_, fun k hk' p hp => ?_⟩
 ·rcases List.mem_cons.1 hk' with rfl | hk'
  ·exact hl
  ·exact h.2.1 k hk'
 ·rcases List.mem_cons.1 hk' with rfl | hk'
  ·rw [hy] at hp
   obtain rfl := Option.some.inj hp
   exact hk
  ·exact h.2.2 k hk' p hp
theorem SeenT.all {f : Fsy} {sn : List Nat} (h : SeenT f sn) (ha : ∀ j, j < (cntM (countF f)).length → j ∈ sn) : ∀ p ∈ countF f, keyT f p.1 := fun p hp => by
 obtain ⟨j, hj⟩ := List.getElem?_of_mem hp
 exact h.2.2 j (ha j (by have := lt_of_some hj; simpa [cntM] using this)) p hj
theorem has_spec (U : List Int) (i : Int) (hl : U.length ≤ 100000) : FSpec Tryz.prog 65 [.sl 1 false (U.map intA), aI i] (aB (hasB U i)) := by
 exact spec_vc (F := Tryz.f65) 400 (
 .r 1 <| .r 1 <| let L1 : Lp (Nat) := ⟨fun a1 => ⟨[(0, .sl 1 false (U.map intA)), (1, aI i), (5, aI (a1 : Int))], []⟩, fun a1 => U.length - a1, fun a1 => AllTo (fun _ z => (z == i) = false) U a1⟩
 .loop L1 0 (show AllTo (fun _ z => (z == i) = false) U 0 from AllTo.zero _ _) ⟨[(0, .sl 1 false (U.map intA)), (1, aI i), (5, aI 0)], []⟩ ⟨sR, sR, Sub.of_eq (congrArg aI (by first | omega | rfl)), trivial⟩ trivial fun a1 ha1 =>
 (fun (k : Nat) (hH1 : AllTo (fun _ z => (z == i) = false) U k) => .r 3 <| .val 8 (show (aI ((U.map intA).length : Int) : AV) = aI (U.length : Int) from by rw [List.length_map]) <| .r 1 <| .br 9 (decide ((k : Int) < (U.length : Int))) (fun q1 => have p1 := decT q1; .r 2 <| .idxM U intA k (m := (k : Int)) rfl (by omega) fun x1 hx1 =>
 .r 3 <| .br 17 (x1 == i) (fun q2 => have p2 := beqT q2; .r 1 <| .fin (x := aB true) (r := aB (hasB U i)) [] trivial (by exact Sub.of_eq (congrArg aB (has_yes hx1 (by assumption)).symm)))
 <| fun q2 => have p2 := beqF q2; .run 3 [rng .i64 ((k : Int) + 1)] ⟨rng64 (by omega) (by omega), trivial⟩ <|
 .back L1 k (k + 1) (show AllTo (fun _ z => (z == i) = false) U (k + 1) from (hH1.step hx1 (by assumption))) (show U.length - (k + 1) < U.length - k from (by omega)) ⟨[(0, .sl 1 false (U.map intA)), (1, aI i), (5, aI ((k : Int) + 1))], []⟩ ⟨sR, sR, Sub.of_eq (congrArg aI (by first | omega | rfl)), trivial⟩ trivial)
 <| fun q1 => have p1 := decF q1; .r 1 <| .fin (x := aB false) (r := aB (hasB U i)) [] trivial (by exact Sub.of_eq (congrArg aB (has_no (hH1.full (by omega))).symm))) a1 ha1) Tryz.func65 rfl (by kernel_rfl) (by kernel_rfl)
end Go.Proofs.YtkhnialfkndiiaaGreat

namespace Go.Proofs.YtkhnialfkndiiaaGreat
open Go.RowKit Copyhold Copyhold.Name
def geAt (l : List Name.Ent) (s : List UInt8) (i : Nat) : Bool := !decide ((l.getD i ([], 0)).1 < s)
theorem geAt_lt {l : List Name.Ent} {s : List UInt8} (h : Srt l) (i : Nat) (hi : i < l.length) : geAt l s i = decide (pos l s ≤ i) := by
 induction l generalizing i with
 | nil => simp at hi
 | cons a l ih =>
  by_cases ha : a.1 < s
  ·rw [pos_lt ha]
   cases i with
   | zero => simp [geAt, ha]
   | succ i =>
    have := ih h.tail i (by simpa using hi)
    unfold geAt at this ⊢
    rw [List.getD_cons_succ, this]
    simp
  ·rw [pos_ge h ha]
   cases i with
   | zero => simp [geAt, ha]
   | succ i =>
    have hx : ¬ ((a :: l).getD (i + 1) ([], 0)).1 < s := by
     rw [List.getD_cons_succ, gete l i (by simpa using hi)]
     exact fun hxs => ha (ltT (h.head _ (List.getElem_mem _)) hxs)
    unfold geAt
    rw [decide_eq_false hx]
    simp
theorem place_turn (l : List Name.Ent) (s : List UInt8) (A : Option Addr) (c i ba bs : Nat) (w : World) (hl : Ents w (.slice A l.length c) l) (hi : i < l.length) (hn : l.length ≤ 1000000)
  (ha : w.cell? ⟨ba, 0, none⟩ = some (.slice A l.length c)) (hs : w.cell? ⟨bs, 0, none⟩ = some (.string ⟨s.toArray⟩)) :
  Calls Tryz.prog 129 #[.int .i64 (i : Int), .pointer (some ⟨ba, 0, none⟩), .pointer (some ⟨bs, 0, none⟩)] w fun e w' => e = .returned (.bool (geAt l s i)) ∧ ∃ n, w' = w.drewN n := by
 obtain ⟨b, off, rfl, hb, hc, hc1, hc2⟩ := hl.at i hi
 have hg : l[i] = l.getD i ([], 0) := (gete l i hi).symm
 rw [hg] at hc1 hc2
 unfold geAt
 generalize l.getD i ([], 0) = x at *
 clear hg hl
 have hi1 : (i : Int) < (l.length : Int) := by omega
 have hi0 : (0 : Int) ≤ (i : Int) := by omega
 go_enter Tryz.func129, Tryz.ntmps129
 go_wp2_with fail
 go_quiet (fail)
 go_wp2_with fail
 go_ret
 exact ⟨by rw [← less_eq]; rfl, _, rfl⟩
theorem sort_Search (l : List Name.Ent) (s : List UInt8) (A : Option Addr) (c ba bs : Nat) (w : World) (hl : Ents w (.slice A l.length c) l) (hn : l.length ≤ 1000000) (hsrt : Srt l)
  (ha : w.cell? ⟨ba, 0, none⟩ = some (.slice A l.length c)) (hs : w.cell? ⟨bs, 0, none⟩ = some (.string ⟨s.toArray⟩)) :
  Calls Tryz.prog 128 #[.int .i64 (l.length : Int), .func (.func 129) #[] #[.pointer (some ⟨ba, 0, none⟩), .pointer (some ⟨bs, 0, none⟩)]] w fun e w' => e = .returned (.int .i64 (pos l s : Int)) ∧ ∃ n, w' = w.drewN n := by
 have hp := pos_le l s
 have HG := Lib.hid (geAt_lt (s := s) hsrt)
 have HT := Lib.hid (fun (i m : Nat) (hi : i < l.length) => place_turn l s A c i ba bs (w.drewN m) hl hi hn ha hs)
 clear hl hsrt ha hs
 go_enter Tryz.func128, Tryz.ntmps128
 go_wp2_with fail
 go_loopw [5, 6] (fun si sj wr => ∃ i j n : Nat, si = .int .i64 i ∧ sj = .int .i64 j ∧ i ≤ pos l s ∧ pos l s ≤ j ∧ j ≤ l.length ∧ wr = w.drewN n) (fun si sj _ => (intOf sj).toNat - (intOf si).toNat)
 case atStart => exact ⟨0, l.length, 0, rfl, rfl, Nat.zero_le _, hp, Nat.le_refl _, rfl⟩
 case round =>
  obtain ⟨i, j, n, rfl, rfl, hi, hj, hjl, rfl⟩ := hrel
  by_cases hlt : i < j
  ·have hmid : ((i : Int) + j) / 2 = (((i + j) / 2 : Nat) : Int) := by omega
   obtain ⟨m, hm⟩ : ∃ m, m = (i + j) / 2 := ⟨_, rfl⟩
   have hm1 : i ≤ m := by omega
   have hm2 : m < j := by omega
   rw [← hm] at hmid
   have hC := HT.out m n (by omega)
   rw [HG.out m (by omega)] at hC
   have HC := Lib.hid hC
   clear hC hm
   by_cases hge : pos l s ≤ m
   ·have hd : decide (pos l s ≤ m) = true := by simpa using hge
    rw [hd] at HC
    clear hd
    go_wp2_with fail
    refine HC.out.mono ?_
    rintro e w1 ⟨rfl, n1, rfl⟩
    go_wp2_with fail
    go_roundw
    case rel => exact ⟨i, m, _, rfl, rfl, hi, hge, by omega, rfl⟩
    case measure => simp [intOf]; omega
   ·have hd : decide (pos l s ≤ m) = false := by simpa using hge
    rw [hd] at HC
    clear hd
    go_wp2_with fail
    refine HC.out.mono ?_
    rintro e w1 ⟨rfl, n1, rfl⟩
    go_wp2_with fail
    go_roundw
    case rel => exact ⟨m + 1, j, _, by go_num, rfl, by omega, hj, hjl, rfl⟩
    case measure => simp [intOf]; omega
  ·obtain rfl : i = pos l s := by omega
   go_wp2_with fail
   go_ret
   exact ⟨rfl, _, rfl⟩
theorem name_place (l : List Name.Ent) (s : List UInt8) (A : Option Addr) (c : Nat) (w : World) (hl : Ents w (.slice A l.length c) l) (hn : l.length ≤ 1000000) (hsrt : Srt l) :
  Calls Tryz.prog 99 #[.slice A l.length c, .string ⟨s.toArray⟩] w fun e w' => e = .returned (.tuple #[.int .i64 (pos l s : Int), .bool (isAt l s)]) ∧ Below w.heap.size w w' := by
 obtain ⟨W, hW⟩ : ∃ W, W = (w.alloc (.cells #[.slice A l.length c] 57)).alloc (.cells #[.string ⟨s.toArray⟩] 9) := ⟨_, rfl⟩
 have hb : Below w.heap.size w W := by rw [hW]; exact ((Below.refl _ _).alloc (Nat.le_refl _) _).alloc (by simp) _
 have c0 : W.cell? ⟨w.heap.size, 0, none⟩ = some (.slice A l.length c) := by rw [hW]; simp [go_sem]
 have c1 : W.cell? ⟨w.heap.size + 1, 0, none⟩ = some (.string ⟨s.toArray⟩) := by rw [hW]; simp [go_sem]
 have HC := Lib.hid (sort_Search l s A c w.heap.size (w.heap.size + 1) W (hl.below hb) hn hsrt c0 c1)
 have hat := at_pos hsrt s
 have hp := pos_le l s
 have HW := Lib.hid hW
 have HB := Lib.hid hb
 by_cases hlt : pos l s < l.length
 ·obtain ⟨b, off, rfl, hbk, hc, hc1, hc2⟩ := (hl.below hb).at (pos l s) hlt
  rw [List.getElem?_eq_getElem hlt, Option.any_some] at hat
  have HAT := Lib.hid hat
  have hi1 : (pos l s : Int) < (l.length : Int) := by omega
  have hi0 : (0 : Int) ≤ (pos l s : Int) := by omega
  clear hl hsrt hat hW hb
  generalize l[pos l s] = x at *
  generalize isAt l s = q at *
  generalize pos l s = k at *
  go_enter Tryz.func99, Tryz.ntmps99
  go_wp2_with fail
  rw [← HW.out]
  refine HC.out.mono ?_
  rintro e w1 ⟨rfl, n1, rfl⟩
  go_wp2_with fail
  go_quiet (fail)
  go_wp2_with fail
  go_ret2
  exact ⟨by rw [← HAT.out]; rfl, below_dn (below_dn HB.out _) _⟩
 ·rw [List.getElem?_eq_none (by omega), Option.any_none] at hat
  have HAT := Lib.hid hat
  have hpl : pos l s = l.length := by omega
  rw [hpl] at HC ⊢
  have hd : decide ((l.length : Int) < (l.length : Int)) = false := by simp
  clear hl hsrt hat hb hlt hp hpl hW
  generalize isAt l s = q at *
  go_enter Tryz.func99, Tryz.ntmps99
  go_wp2_with fail
  rw [← HW.out]
  refine HC.out.mono ?_
  rintro e w1 ⟨rfl, n1, rfl⟩
  go_wp2_with fail
  go_quiet (fail)
  go_wp2_with fail
  go_ret2
  exact ⟨by rw [← HAT.out]; rfl, below_dn (below_dn HB.out _) _⟩
def findR (l : List Name.Ent) (s : List UInt8) : Value := .tuple #[.int .i64 ((getE l s).getD 0), .bool (isAt l s)]
theorem name_Find (l : List Name.Ent) (s : List UInt8) (A : Option Addr) (c : Nat) (w : World) (hl : Ents w (.slice A l.length c) l) (hn : l.length ≤ 1000000) (hsrt : Srt l) :
  Calls Tryz.prog 51 #[.slice A l.length c, .string ⟨s.toArray⟩] w fun e w' => e = .returned (findR l s) ∧ Below w.heap.size w w' := by
 have HC := Lib.hid (name_place l s A c w hl hn hsrt)
 unfold findR
 cases hi : isAt l s with
 | true =>
  obtain ⟨x, hx1, hx2, hx3⟩ := get_pos hsrt hi
  obtain ⟨hlt, hxe⟩ := List.getElem?_eq_some_iff.1 hx1
  obtain ⟨b, off, rfl, hbk, hc, hc1, hc2⟩ := hl.at (pos l s) hlt
  rw [hxe] at hc2
  rw [hx3, Option.getD_some]
  rw [hi] at HC
  have HC2 := Lib.hid hc2
  have hi1 : (pos l s : Int) < (l.length : Int) := by omega
  have hi0 : (0 : Int) ≤ (pos l s : Int) := by omega
  clear hl hsrt hc1 hc2 hx1 hx2 hx3 hxe hi
  generalize pos l s = k at *
  go_enter Tryz.func51, Tryz.ntmps51
  go_wp2_with fail
  refine HC.out.mono ?_
  rintro e w1 ⟨rfl, hb1⟩
  have hc2 := cell_keep hb1 HC2.out
  have HB1 := Lib.hid hb1
  clear hb1
  go_wp2_with fail
  go_ret2
  exact ⟨rfl, HB1.out⟩
 | false =>
  rw [get_none hi, Option.getD_none]
  rw [hi] at HC
  clear hl hsrt hi
  go_enter Tryz.func51, Tryz.ntmps51
  go_wp2_with fail
  refine HC.out.mono ?_
  rintro e w1 ⟨rfl, hb1⟩
  have HB1 := Lib.hid hb1
  clear hb1
  go_wp2_with fail
  go_ret2
  exact ⟨rfl, HB1.out⟩
end Go.Proofs.YtkhnialfkndiiaaGreat

namespace Go.Proofs.YtkhnialfkndiiaaGreat
open Go.RowKit Copyhold Copyhold.Name
end Go.Proofs.YtkhnialfkndiiaaGreat

namespace Go.Proofs.YtkhnialfkndiiaaGreat
open Go.RowKit Copyhold Copyhold.Name
end Go.Proofs.YtkhnialfkndiiaaGreat

namespace Go.Proofs.YtkhnialfkndiiaaGreat
open Go.RowKit Copyhold Copyhold.Name
theorem textElem : Elem Tryz.prog 28 9 (.string ⟨#[]⟩) 1 16 :=
 ⟨Tryz.underlying28, by kernel_rfl, by kernel_rfl, by decide⟩
end Go.Proofs.YtkhnialfkndiiaaGreat

namespace Go.Proofs.YtkhnialfkndiiaaGreat
open Go.RowKit Copyhold
end Go.Proofs.YtkhnialfkndiiaaGreat

namespace Go.Proofs.YtkhnialfkndiiaaGreat
open Go.RowKit Copyhold Copyhold.Name
theorem isAt_take (l : List Name.Ent) (s : List UInt8) (k : Nat) (hk : k < l.length) : isAt (l.take (k + 1)) s = (isAt (l.take k) s || l[k].1 == s) := by
 unfold isAt
 rw [List.take_succ_eq_append_getElem hk, List.any_append]
 simp
theorem getE_take (l : List Name.Ent) (s : List UInt8) (k : Nat) (hk : k < l.length) (h : isAt (l.take k) s = false) (he : l[k].1 = s) : getE l s = some l[k].2 ∧ isAt l s = true := by
 have hg : getE l s = some l[k].2 := by
  unfold getE
  have hs : l = l.take k ++ l[k] :: l.drop (k + 1) := by rw [← List.drop_eq_getElem_cons hk, List.take_append_drop]
  have hn : (l.take k).find? (fun x => x.1 == s) = none := by
   rw [List.find?_eq_none]
   intro x hx e
   rw [Bool.eq_false_iff] at h
   exact h (isAt_mem.2 ⟨x, hx, by simpa using e⟩)
  generalize l[k] = y at *
  rw [hs, List.find?_append, hn]
  simp [he]
 exact ⟨hg, by rw [get_some, hg]; rfl⟩
theorem ref06_Find (l : List Name.Ent) (s : List UInt8) (A : Option Addr) (c : Nat) (w : World) (hl : Ents w (.slice A l.length c) l) (hn : l.length ≤ 1000000) :
  Calls Tryz.prog 68 #[.slice A l.length c, .string ⟨s.toArray⟩] w fun e w' => e = .returned (findR l s) ∧ w = w' := by
 have HL := Lib.hid hl
 clear hl
 go_enter Tryz.func68, Tryz.ntmps68
 go_wp2_with fail
 go_loop [6] (fun si => ∃ k : Nat, si = .int .i64 k ∧ k ≤ l.length ∧ isAt (l.take k) s = false) (fun si => l.length - (intOf si).toNat)
 case atStart => exact ⟨0, rfl, Nat.zero_le _, by simp [isAt]⟩
 case round =>
  obtain ⟨k, rfl, hk, hp⟩ := hrel
  have HP := Lib.hid hp
  clear hp
  by_cases hlt : k < l.length
  ·obtain ⟨b, off, rfl, hbk, hc, hc1, hc2⟩ := HL.out.at k hlt
   have hst := isAt_take l s k hlt
   rw [HP.out, Bool.false_or] at hst
   have HG := Lib.hid (getE_take l s k hlt HP.out)
   have HST := Lib.hid hst
   clear hst
   generalize l[k] = x at *
   by_cases he : x.1 = s
   ·obtain ⟨g1, g2⟩ := HG.out he
    have HF : Hid (findR l s = .tuple #[.int .i64 x.2, .bool true]) := Lib.hid (by rw [findR, g1, g2]; rfl)
    rw [he] at hc1
    clear g1 g2 he
    go_wp2_with fail
    go_ret2
    exact ⟨by rw [HF.out]; rfl, rfl⟩
   ·have hq : (x.1 == s) = false := by simpa using he
    have HS := Lib.hid (HST.out.trans hq)
    clear he
    go_wp2_with fail
    go_round
    case rel => exact ⟨k + 1, by go_num, by omega, HS.out⟩
    case measure => simp [intOf]; omega
  ·have hfin : isAt l s = false := by have := HP.out; rwa [List.take_of_length_le (by omega)] at this
   have HF : Hid (findR l s = .tuple #[.int .i64 0, .bool false]) := Lib.hid (by rw [findR, hfin, get_none hfin]; rfl)
   clear hfin
   go_wp2_with fail
   go_ret2
   exact ⟨by rw [HF.out]; rfl, rfl⟩
end Go.Proofs.YtkhnialfkndiiaaGreat
