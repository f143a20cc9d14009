/- ref11.Small over data. Rules for a certificate's open nodes: 'make(S, n)': a row of one's own of n noughts. Over any program. Some calls, one behind the other. ref01.Strings, ref11.Same, All over data. ops.Same, ref11.Ints over data. ref11.With over data. ref11.named, Looks over data. A row of one's own said otherwise; sorting by insertion: the mathematics. slices.Sort of 12 numbers at most. slices.Sort of 12 numbers at most, Clone, Compact; ops.gather. slices.Compact where neighbours differ; ops.gather, ops.Looks. ops.Looks. -/
import Derived.Test.YtkhnialfkndiiaaGreatMrgAA
import Derived.Test.YtkhnialfkndiiaaGreatOpsD11
import Derived.Test.YtkhnialfkndiiaaGreatMrgI
import Derived.Test.YtkhnialfkndiiaaGreatMrgAB
import Derived.Test.YtkhnialfkndiiaaGreatRfI11
set_option maxRecDepth 100000
set_option maxHeartbeats 8000000
set_option linter.unusedVariables false
set_option linter.unusedSimpArgs false
namespace Go.Proofs.YtkhnialfkndiiaaGreat
open Go Go.RowKit Copyhold
structure OkC0 (c : Cal) : Prop where
  kind : I64 c.kind
  ino : I64 c.ino
  to : I64 c.to
  at_ : I64 c.at_
  many : I64 c.many
  name : c.name.length ≤ 140737488351232
  name2 : c.name2.length ≤ 140737488351232
  text : c.text.length ≤ 140737488351232
def txC (c : Cal) : Nat := c.name.length + c.name2.length + c.text.length
def smS (l : List Cal) (k : Nat) : Nat := l.length + ((l.take k).map txC).sum
def smallP (l : List Cal) : Prop := smS l l.length ≤ 2000 ∧ l.length ≤ 30
theorem sm_0 (l : List Cal) : smS l 0 = l.length := by unfold smS; simp
theorem sm_step {l : List Cal} {k : Nat} {x : Cal} (h : l[k]? = some x) : smS l (k + 1) = smS l k + txC x := by
  unfold smS
  rw [take_step h]
  simp
  omega
theorem sm_le (l : List Cal) (k : Nat) : smS l k ≤ smS l l.length := by
  unfold smS
  have := sum_take_le txC l k
  rw [List.take_length]
  omega
theorem small_ok {l : List Cal} (h : smallP l) {c : Cal} (hc : c ∈ l) (h0 : OkC0 c) : OkCal c := by
  have h1 := h.1
  have : txC c ≤ ((l.take l.length).map txC).sum := by rw [List.take_length]; exact sum_pos hc
  unfold smS at h1
  have e : txC c = c.name.length + c.name2.length + c.text.length := rfl
  exact ⟨h0.kind, h0.ino, h0.to, h0.at_, h0.many, by omega, by omega, by omega⟩
theorem small_spec (l : List Cal) (hl : l.length ≤ 8796093022207) (ok : ∀ c ∈ l, OkC0 c) : FSpec Tryz.prog 13 [.sl 8 false (l.map calA)] (aB (dP (smallP l))) := by
  exact spec_vc (F := Tryz.f13) 400 (
 .r 1 <| .r 2 <| .val 6 (show (aI ((l.map calA).length : Int) : AV) = aI (l.length : Int) from by rw [List.length_map]) <| .r 1 <| .r 1 <| let L1 : Lp (Nat) := ⟨fun a1 => ⟨[(0, .sl 8 false (l.map calA)), (4, aI (a1 : Int)), (3, aI (smS l a1 : Int))], []⟩, fun a1 => l.length - a1, fun a1 => a1 ≤ l.length ∧ smS l a1 ≤ 500000000000000⟩
 .loop L1 0 (show 0 ≤ l.length ∧ smS l 0 ≤ 500000000000000 from (by rw [sm_0]; omega)) ⟨[(0, .sl 8 false (l.map calA)), (4, aI 0), (3, aI (l.length : Int))], []⟩ ⟨Sub.refl _, Sub.of_eq (congrArg aI (by first | omega | rfl)), Sub.of_eq (congrArg aI (by rw [sm_0])), trivial⟩ trivial fun a1 ha1 =>
 (fun (k : Nat) (hH1 : k ≤ l.length ∧ smS l k ≤ 500000000000000) => .r 3 <| .val 9 (show (aI ((l.map calA).length : Int) : AV) = aI (l.length : Int) from by rw [List.length_map]) <| .r 2 <| .br 11 (decide ((k : Int) < (l.length : Int))) (fun q1 => have p1 := decT q1; .r 3 <| .br 14 (decide ((smS l k : Int) ≤ 2000)) (fun q2 => have p2 := decT q2; .ord [0, 1, 2, 3, 4, 5, 6, 7, 8, 9, 10, 11, 12, 13, 14, 15, 16, 17, 18, 19, 20, 21, 22] <| .r 3 <| .idxM l calA k (m := (k : Int)) rfl (by omega) fun x1 hx1 =>
 have okx1 := ok x1 (List.mem_of_getElem? hx1); have b1x1 := okx1.name; have b2x1 := okx1.name2; have b3x1 := okx1.text; .run 6 [rng .i64 ((smS l k : Int) + ((x1.name).length : Int))] ⟨rng64 (by omega) (by omega), trivial⟩ <|
 .idx k (m := (k : Int)) (xs := l.map calA) (e := calA x1) rfl (map_some hx1) <|
 .run 6 [rng .i64 (((smS l k : Int) + ((x1.name).length : Int)) + ((x1.name2).length : Int))] ⟨rng64 (by omega) (by omega), trivial⟩ <|
 .idx k (m := (k : Int)) (xs := l.map calA) (e := calA x1) rfl (map_some hx1) <|
 .run 5 [rng .i64 ((((smS l k : Int) + ((x1.name).length : Int)) + ((x1.name2).length : Int)) + ((x1.text).length : Int))] ⟨rng64 (by omega) (by omega), trivial⟩ <|
 .run 3 [rng .i64 ((k : Int) + 1)] ⟨rng64 (by omega) (by omega), trivial⟩ <|
 .back L1 k (k + 1) (show (k + 1) ≤ l.length ∧ smS l (k + 1) ≤ 500000000000000 from (by refine ⟨by omega, ?_⟩; rw [sm_step hx1]; unfold txC; omega)) (show l.length - (k + 1) < l.length - k from (by omega)) ⟨[(0, .sl 8 false (l.map calA)), (4, aI ((k : Int) + 1)), (3, aI ((((smS l k : Int) + ((x1.name).length : Int)) + ((x1.name2).length : Int)) + ((x1.text).length : Int)))], []⟩ ⟨Sub.refl _, Sub.of_eq (congrArg aI (by first | omega | rfl)), Sub.of_eq (congrArg aI (by rw [sm_step hx1]; unfold txC; omega)), trivial⟩ trivial)
 <| fun q2 => have p2 := decF q2; .r 3 <| .is 41 q2 <| .r 5 <| .fin (x := aB false) (r := aB (dP (smallP l))) [] trivial (by
    have hm := sm_le l k
    by_cases hk : k = l.length
    · rw [← hk] at hm
      refine sE ?_
      unfold smallP
      rw [← hk]
      simp
      omega
    · refine sE ?_
      unfold smallP
      simp
      omega))
 <| fun q1 => have p1 := decF q1; .r 3 <| .r 3 <| .br 41 (decide ((smS l k : Int) ≤ 2000)) (fun q3 => have p3 := decT q3; .r 2 <| .val 43 (show (aI ((l.map calA).length : Int) : AV) = aI (l.length : Int) from by rw [List.length_map]) <| .r 3 <| .fin (x := aB (decide ((l.length : Int) ≤ 30))) (r := aB (dP (smallP l))) [] trivial (by
    have hm := sm_le l k
    by_cases hk : k = l.length
    · rw [← hk] at hm
      refine sE ?_
      unfold smallP
      rw [← hk]
      simp
      omega
    · refine sE ?_
      unfold smallP
      simp
      omega))
 <| fun q3 => have p3 := decF q3; .r 5 <| .fin (x := aB false) (r := aB (dP (smallP l))) [] trivial (by
    have hm := sm_le l k
    by_cases hk : k = l.length
    · rw [← hk] at hm
      refine sE ?_
      unfold smallP
      rw [← hk]
      simp
      omega
    · refine sE ?_
      unfold smallP
      simp
      omega)) a1 ha1) Tryz.func13 rfl (by kernel_rfl) (by kernel_rfl)
structure KeptN (f g : Fsy) (k : Nat) : Prop where
  ok : OkF g
  tree : TreeP g
  next : f.next ≤ g.next ∧ g.next ≤ f.next + k
  few : wF g ≤ wF f + 2 * k
theorem do_names {f : Fsy} {c : Cal} (hp : rowsP f) : (doF f c).2.names.length ≤ 256 := by
  have key : (deedF f c).2.names.length ≤ 256 := by
    rcases (show c.kind = 1 ∨ c.kind = 2 ∨ c.kind = 3 ∨ c.kind = 4 ∨ c.kind = 5 ∨ c.kind = 6 ∨ c.kind = 7 ∨ c.kind = 8 ∨ c.kind = 9 ∨ c.kind = 10 ∨ c.kind = 11 ∨ c.kind = 12 ∨ c.kind = 13 ∨ c.kind = 14 ∨ c.kind = 15 ∨ (c.kind < 1 ∨ c.kind > 15) from by omega) with h | h | h | h | h | h | h | h | h | h | h | h | h | h | h | h
    · rw [deed_1 h]
      exact Nat.zero_le _
    · rw [deed_2 h]
      unfold statD; split <;> exact Nat.zero_le _
    · rw [deed_3 h]
      unfold readO; split <;> exact Nat.zero_le _
    · rw [deed_4 h]
      unfold writeO; split <;> exact Nat.zero_le _
    · rw [deed_5 h]
      unfold cutO; split <;> exact Nat.zero_le _
    · rw [deed_6 h]
      exact Nat.zero_le _
    · rw [deed_7 h]
      exact Nat.zero_le _
    · rw [deed_8 h]
      unfold symO; split <;> exact Nat.zero_le _
    · rw [deed_9 h]
      unfold takeO; split
      · split <;> exact Nat.zero_le _
      · exact Nat.zero_le _
    · rw [deed_10 h]
      unfold takeO; split
      · split <;> exact Nat.zero_le _
      · exact Nat.zero_le _
    · rw [deed_11 h]
      exact Nat.zero_le _
    · rw [deed_12 h]
      exact Nat.zero_le _
    · rw [deed_13 h]
      exact Nat.zero_le _
    · rw [deed_14 h]
      show ((dirN f c.ino).l.map Ent.name).length ≤ 256
      rw [List.length_map]
      exact (dir_srt hp c.ino).2
    · rw [deed_15 h]
      exact Nat.zero_le _
    · rw [deed_no h]; exact Nat.zero_le _
  unfold doF
  split
  · exact key
  · exact Nat.zero_le _
theorem rep_eq {x y : Rep} (h1 : x.e = y.e) (h2 : x.a = y.a) (h3 : x.b = y.b) (h4 : x.n = y.n) (h5 : x.text = y.text) (h6 : x.names = y.names) : x = y := by cases x; cases y; simp_all
theorem ints_spec (a b : List Int) (h1 : a.length ≤ 1000000) (h2 : b.length ≤ 1000000) : FSpec Tryz.prog 18 [.sl 1 false (a.map intA), .sl 1 false (b.map intA)] (aB (dP (a = b))) := by
  exact spec_vc (F := Tryz.f18) 400 (
 .r 1 <| .r 2 <| .val 7 (show (aI ((a.map intA).length : Int) : AV) = aI (a.length : Int) from by rw [List.length_map]) <| .r 2 <| .val 9 (show (aI ((b.map intA).length : Int) : AV) = aI (b.length : Int) from by rw [List.length_map]) <| .r 1 <| .br 10 ((a.length : Int) != (b.length : Int)) (fun q1 => have p1 := bneT q1; .r 1 <| .fin (x := aB false) (r := aB (dP (a = b))) [] trivial (by exact sF (fun h => by have := congrArg List.length h; omega)))
 <| fun q1 => have p1 := bneF q1; .r 1 <| let L1 : Lp (Nat) := ⟨fun a1 => ⟨[(0, .sl 1 false (a.map intA)), (1, .sl 1 false (b.map intA)), (5, aI (a1 : Int))], []⟩, fun a1 => a.length - a1, fun a1 => a1 ≤ a.length ∧ a.take a1 = b.take a1⟩
 .loop L1 0 (show 0 ≤ a.length ∧ a.take 0 = b.take 0 from ⟨Nat.zero_le _, rfl⟩) ⟨[(0, .sl 1 false (a.map intA)), (1, .sl 1 false (b.map intA)), (5, aI 0)], []⟩ ⟨Sub.refl _, Sub.refl _, Sub.of_eq (congrArg aI (by first | omega | rfl)), trivial⟩ trivial fun a1 ha1 =>
 (fun (k : Nat) (hH1 : k ≤ a.length ∧ a.take k = b.take k) => .r 3 <| .val 13 (show (aI ((a.map intA).length : Int) : AV) = aI (a.length : Int) from by rw [List.length_map]) <| .r 1 <| .br 14 (decide ((k : Int) < (a.length : Int))) (fun q2 => have p2 := decT q2; .ord [0, 1, 2, 3, 4, 5, 6, 7, 8] <| .r 2 <| .idxM a intA k (m := (k : Int)) rfl (by omega) fun x1 hx1 =>
 .r 3 <| .idxM b intA k (m := (k : Int)) rfl (by omega) fun x2 hx2 =>
 .r 2 <| .br 25 (x1 != x2) (fun q3 => have p3 := bneT q3; .r 1 <| .fin (x := aB false) (r := aB (dP (a = b))) [] trivial (by
    refine sF (fun h => ?_)
    rw [h, hx2] at hx1
    obtain rfl := Option.some.inj hx1
    simp_all [dP_true, dP_false]))
 <| fun q3 => have p3 := bneF q3; .run 3 [rng .i64 ((k : Int) + 1)] ⟨rng64 (by omega) (by omega), trivial⟩ <|
 .back L1 k (k + 1) (show (k + 1) ≤ a.length ∧ a.take (k + 1) = b.take (k + 1) from ⟨by omega, by rw [take_step hx1, take_step hx2, hH1.2]; first | (congr 2; done) | (congr 2; exact (by simp_all))⟩) (show a.length - (k + 1) < a.length - k from (by omega)) ⟨[(0, .sl 1 false (a.map intA)), (1, .sl 1 false (b.map intA)), (5, aI ((k : Int) + 1))], []⟩ ⟨Sub.refl _, Sub.refl _, Sub.of_eq (congrArg aI (by first | omega | rfl)), trivial⟩ trivial)
 <| fun q2 => have p2 := decF q2; .r 1 <| .fin (x := aB true) (r := aB (dP (a = b))) [] trivial (by
    refine sT ?_
    have h := hH1.2
    rw [take_all (by omega), take_all (by omega)] at h
    exact h)) a1 ha1) Tryz.func18 rfl (by kernel_rfl) (by kernel_rfl)
def pN (l : List Int) (n : Int) : Nat := (l.takeWhile fun x => decide (x < n)).length
theorem pN_le (l : List Int) (n : Int) : pN l n ≤ l.length := (List.takeWhile_sublist _).length_le
theorem pN_iff {n : Int} : ∀ {l : List Int} {k : Nat} {x : Int}, k ≤ pN l n → l[k]? = some x → (x < n ↔ k < pN l n)
  | [], k, x, _, hx => (by simp at hx)
  | a :: r, k, x, hk, hx => by
    by_cases ha : a < n
    · have e : pN (a :: r) n = pN r n + 1 := by unfold pN; rw [List.takeWhile_cons, if_pos (by simpa using ha)]; rfl
      rw [e] at hk ⊢
      cases k with
      | zero =>
        simp at hx
        subst hx
        exact ⟨fun _ => by omega, fun _ => ha⟩
      | succ k =>
        have := pN_iff (n := n) (l := r) (k := k) (x := x) (by omega) (by simpa using hx)
        rw [this]
        omega
    · have e : pN (a :: r) n = 0 := by unfold pN; rw [List.takeWhile_cons, if_neg (by simpa using ha)]; rfl
      rw [e] at hk ⊢
      obtain rfl : k = 0 := by omega
      simp at hx
      subst hx
      exact ⟨fun h => absurd h ha, fun h => by omega⟩
def wiK (l : List Int) (n : Int) (k j : Nat) : List Int := l.take k ++ n :: ((l.drop k).take (j - k)).filter fun x => x != n
theorem wiK_0 (l : List Int) (n : Int) (k : Nat) : wiK l n k k = l.take k ++ [n] := by unfold wiK; simp
theorem wiK_step {l : List Int} {n : Int} {k j : Nat} {x : Int} (h : l[j]? = some x) (hkj : k ≤ j) : wiK l n k (j + 1) = wiK l n k j ++ [x].filter fun x => x != n := by
  unfold wiK
  rw [show j + 1 - k = (j - k) + 1 from by omega, take_step (l := l.drop k) (k := j - k) (x := x) (by rw [List.getElem?_drop, show k + (j - k) = j from by omega]; exact h), List.filter_append]
  simp
theorem wiK_yes {l : List Int} {n : Int} {k j : Nat} {x : Int} (h : l[j]? = some x) (hkj : k ≤ j) (q : (x != n) = true) : wiK l n k (j + 1) = wiK l n k j ++ [x] := by rw [wiK_step h hkj]; simp [List.filter_cons, q]
theorem wiK_no {l : List Int} {n : Int} {k j : Nat} {x : Int} (h : l[j]? = some x) (hkj : k ≤ j) (q : (x != n) = false) : wiK l n k (j + 1) = wiK l n k j := by rw [wiK_step h hkj]; simp [List.filter_cons, q]
theorem wiK_le (l : List Int) (n : Int) (k j : Nat) (hk : k ≤ l.length) : (wiK l n k j).length ≤ l.length + 1 := by
  unfold wiK
  have := List.length_filter_le (fun x => x != n) ((l.drop k).take (j - k))
  simp only [List.length_append, List.length_cons, List.length_take, List.length_drop] at this ⊢
  omega
def withI (l : List Int) (n : Int) : List Int := wiK l n (pN l n) l.length
theorem with_len (l : List Int) (n : Int) : (withI l n).length ≤ l.length + 1 := wiK_le l n _ _ (pN_le l n)
theorem with_spec (l : List Int) (n : Int) (hl : l.length ≤ 100000) : FSpec Tryz.prog 53 [.sl 1 false (l.map intA), aI n] (.sl 1 false ((withI l n).map intA)) := by
  exact spec_vc (F := Tryz.f53) 400 (
 .r 1 <| .r 1 <| .rowNil 5 5 3 1 <| .r 1 <| let L1 : Lp (Nat × Value) := ⟨fun a1 => ⟨[(0, .sl 1 false (l.map intA)), (1, aI n), (6, aI (a1.1 : Int)), (5, .rw 5 a1.2 ((l.take a1.1).length))], [(5, .row a1.2 3 1 ((l.take a1.1).map intA))]⟩, fun a1 => l.length - a1.1, fun a1 => a1.1 ≤ l.length ∧ a1.1 ≤ pN l n⟩
 .loop L1 (0, .slice none 0 0) (show 0 ≤ l.length ∧ 0 ≤ pN l n from ⟨Nat.zero_le _, Nat.zero_le _⟩) ⟨[(0, .sl 1 false (l.map intA)), (1, aI n), (6, aI 0), (5, .rw 5 (.slice none 0 0) 0)], [(5, .row (.slice none 0 0) 3 1 ([]))]⟩ ⟨Sub.refl _, Sub.refl _, Sub.of_eq (congrArg aI (by first | omega | rfl)), Sub.of_eq (congrArg (AV.rw 5 (.slice none 0 0)) (by simp)), trivial⟩ ⟨⟨_, rfl, SubB.of_eq (by simp)⟩, trivial⟩ fun a1 ha1 =>
 (fun (k : Nat) (V : Value) (hH1 : k ≤ l.length ∧ k ≤ pN l n) => .r 3 <| .val 9 (show (aI ((l.map intA).length : Int) : AV) = aI (l.length : Int) from by rw [List.length_map]) <| .r 2 <| .br 11 (decide ((k : Int) < (l.length : Int))) (fun q1 => have p1 := decT q1; .r 2 <| .idxM l intA k (m := (k : Int)) rfl (by omega) fun x1 hx1 =>
 .r 4 <| .br 18 (decide (x1 < n)) (fun q2 => have p2 := decT q2; .r 3 <| .idx k (m := (k : Int)) (xs := l.map intA) (e := intA x1) rfl (map_some hx1) <|
 .r 2 <| .app 8 V ((l.take k).map intA) ([[aI x1]]) (by first | (simp only [List.length_map, List.length_cons, List.length_nil, List.length_take, List.length_append]; omega) | (have hw := wiK_le l n k j (by omega); simp only [List.length_map, List.length_cons, List.length_nil, List.length_append]; omega)) (by first | (simp only [List.length_map, List.length_cons, List.length_nil, List.length_take, List.length_append]; omega) | (have hw := wiK_le l n k j (by omega); simp only [List.length_map, List.length_cons, List.length_nil, List.length_append]; omega)) fun V1 =>
 .r 1 <| .run 3 [rng .i64 ((k : Int) + 1)] ⟨rng64 (by omega) (by omega), trivial⟩ <|
 .back L1 (k, V) ((k + 1), V1) (show (k + 1) ≤ l.length ∧ (k + 1) ≤ pN l n from (by refine ⟨by omega, ?_⟩; have := (pN_iff hH1.2 hx1).1 (by omega); omega)) (show l.length - (k + 1) < l.length - k from (by omega)) ⟨[(0, .sl 1 false (l.map intA)), (1, aI n), (6, aI ((k : Int) + 1)), (5, .rw 5 V1 (((l.take k).map intA).length + ([[aI x1]] : List (List AV)).length))], [(5, .row V1 3 1 (((l.take k).map intA) ++ ([[aI x1]])))]⟩ ⟨Sub.refl _, Sub.refl _, Sub.of_eq (congrArg aI (by first | omega | rfl)), Sub.of_eq (congrArg (AV.rw 5 V1) (by rw [take_step hx1]; simp)), trivial⟩ ⟨⟨_, rfl, SubB.of_eq (by rw [take_step hx1]; simp [intA])⟩, trivial⟩)
 <| fun q2 => have p2 := decF q2; .r 3 <| .app 8 V ((l.take k).map intA) ([[aI n]]) (by first | (simp only [List.length_map, List.length_cons, List.length_nil, List.length_take, List.length_append]; omega) | (have hw := wiK_le l n k j (by omega); simp only [List.length_map, List.length_cons, List.length_nil, List.length_append]; omega)) (by first | (simp only [List.length_map, List.length_cons, List.length_nil, List.length_take, List.length_append]; omega) | (have hw := wiK_le l n k j (by omega); simp only [List.length_map, List.length_cons, List.length_nil, List.length_append]; omega)) fun V2 =>
 .r 1 <| let L2 : Lp (Nat × Value) := ⟨fun a2 => ⟨[(0, .sl 1 false (l.map intA)), (1, aI n), (6, aI (a2.1 : Int)), (5, .rw 5 a2.2 ((wiK l n k a2.1).length))], [(5, .row a2.2 3 1 ((wiK l n k a2.1).map intA))]⟩, fun a2 => l.length - a2.1, fun a2 => k ≤ a2.1 ∧ a2.1 ≤ l.length⟩
 .loop L2 (k, V2) (show k ≤ k ∧ k ≤ l.length from ⟨Nat.le_refl _, by omega⟩) ⟨[(0, .sl 1 false (l.map intA)), (1, aI n), (6, aI (k : Int)), (5, .rw 5 V2 (((l.take k).map intA).length + ([[aI n]] : List (List AV)).length))], [(5, .row V2 3 1 (((l.take k).map intA) ++ ([[aI n]])))]⟩ ⟨Sub.refl _, Sub.refl _, Sub.refl _, Sub.of_eq (congrArg (AV.rw 5 V2) (by rw [wiK_0]; simp)), trivial⟩ ⟨⟨_, rfl, SubB.of_eq (by rw [wiK_0]; simp [intA])⟩, trivial⟩ fun a2 ha2 =>
 (fun (j : Nat) (W : Value) (hH2 : k ≤ j ∧ j ≤ l.length) => .r 3 <| .val 34 (show (aI ((l.map intA).length : Int) : AV) = aI (l.length : Int) from by rw [List.length_map]) <| .r 1 <| .br 35 (decide ((j : Int) < (l.length : Int))) (fun q3 => have p3 := decT q3; .r 2 <| .idxM l intA j (m := (j : Int)) rfl (by omega) fun x2 hx2 =>
 .r 3 <| .br 41 (x2 != n) (fun q4 => have p4 := bneT q4; .r 3 <| .idx j (m := (j : Int)) (xs := l.map intA) (e := intA x2) rfl (map_some hx2) <|
 .r 2 <| .app 8 W ((wiK l n k j).map intA) ([[aI x2]]) (by first | (simp only [List.length_map, List.length_cons, List.length_nil, List.length_take, List.length_append]; omega) | (have hw := wiK_le l n k j (by omega); simp only [List.length_map, List.length_cons, List.length_nil, List.length_append]; omega)) (by first | (simp only [List.length_map, List.length_cons, List.length_nil, List.length_take, List.length_append]; omega) | (have hw := wiK_le l n k j (by omega); simp only [List.length_map, List.length_cons, List.length_nil, List.length_append]; omega)) fun V3 =>
 .r 1 <| .run 3 [rng .i64 ((j : Int) + 1)] ⟨rng64 (by omega) (by omega), trivial⟩ <|
 .back L2 (j, W) ((j + 1), V3) (show k ≤ (j + 1) ∧ (j + 1) ≤ l.length from (by show _ ≤ _ ∧ _; omega)) (show l.length - (j + 1) < l.length - j from (by omega)) ⟨[(0, .sl 1 false (l.map intA)), (1, aI n), (6, aI ((j : Int) + 1)), (5, .rw 5 V3 (((wiK l n k j).map intA).length + ([[aI x2]] : List (List AV)).length))], [(5, .row V3 3 1 (((wiK l n k j).map intA) ++ ([[aI x2]])))]⟩ ⟨Sub.refl _, Sub.refl _, Sub.of_eq (congrArg aI (by first | omega | rfl)), Sub.of_eq (congrArg (AV.rw 5 V3) (by rw [wiK_yes hx2 (by omega) (by simpa [bne] using q4)]; simp)), trivial⟩ ⟨⟨_, rfl, SubB.of_eq (by rw [wiK_yes hx2 (by omega) (by simpa [bne] using q4)]; simp [intA])⟩, trivial⟩)
 <| fun q4 => have p4 := bneF q4; .run 3 [rng .i64 ((j : Int) + 1)] ⟨rng64 (by omega) (by omega), trivial⟩ <|
 .back L2 (j, W) ((j + 1), W) (show k ≤ (j + 1) ∧ (j + 1) ≤ l.length from (by show _ ≤ _ ∧ _; omega)) (show l.length - (j + 1) < l.length - j from (by omega)) ⟨[(0, .sl 1 false (l.map intA)), (1, aI n), (6, aI ((j : Int) + 1)), (5, .rw 5 W ((wiK l n k j).length))], [(5, .row W 3 1 ((wiK l n k j).map intA))]⟩ ⟨Sub.refl _, Sub.refl _, Sub.of_eq (congrArg aI (by first | omega | rfl)), Sub.of_eq (congrArg (AV.rw 5 W) (by rw [wiK_no hx2 (by omega) (by simpa [bne] using q4)])), trivial⟩ ⟨⟨_, rfl, SubB.of_eq (by rw [wiK_no hx2 (by omega) (by simpa [bne] using q4)])⟩, trivial⟩)
 <| fun q3 => have p3 := decF q3; .r 2 <| .frz 5 [4] [] [W = W, (wiK l n k j).length = ((wiK l n k j).map intA).length] ⟨rfl, (by first | rfl | (simp; done) | (simp; omega)), trivial⟩ <|
 .fin (x := .sl 1 false ((wiK l n k j).map intA)) (r := .sl 1 false ((withI l n).map intA)) [] trivial (by
    have hk : k = pN l n := by
      have hq := pN_le l n
      have hk1 := hH1.2
      by_cases h : k < pN l n
      · have := (pN_iff hH1.2 hx1).2 h; omega
      · omega
    have e : wiK l n k j = withI l n := by unfold withI; rw [hk, show j = l.length from by omega]
    rw [← e]
    first | exact Sub.refl _ | exact Sub.loose _ _ _)) a2.1 a2.2 ha2)
 <| fun q1 => have p1 := decF q1; .r 7 <| .r 3 <| .app 8 V ((l.take k).map intA) ([[aI n]]) (by first | (simp only [List.length_map, List.length_cons, List.length_nil, List.length_take, List.length_append]; omega) | (have hw := wiK_le l n k j (by omega); simp only [List.length_map, List.length_cons, List.length_nil, List.length_append]; omega)) (by first | (simp only [List.length_map, List.length_cons, List.length_nil, List.length_take, List.length_append]; omega) | (have hw := wiK_le l n k j (by omega); simp only [List.length_map, List.length_cons, List.length_nil, List.length_append]; omega)) fun V4 =>
 .r 1 <| let L2 : Lp (Nat × Value) := ⟨fun a2 => ⟨[(0, .sl 1 false (l.map intA)), (1, aI n), (6, aI (a2.1 : Int)), (5, .rw 5 a2.2 ((wiK l n k a2.1).length))], [(5, .row a2.2 3 1 ((wiK l n k a2.1).map intA))]⟩, fun a2 => l.length - a2.1, fun a2 => k ≤ a2.1 ∧ a2.1 ≤ l.length⟩
 .loop L2 (k, V4) (show k ≤ k ∧ k ≤ l.length from ⟨Nat.le_refl _, by omega⟩) ⟨[(0, .sl 1 false (l.map intA)), (1, aI n), (6, aI (k : Int)), (5, .rw 5 V4 (((l.take k).map intA).length + ([[aI n]] : List (List AV)).length))], [(5, .row V4 3 1 (((l.take k).map intA) ++ ([[aI n]])))]⟩ ⟨Sub.refl _, Sub.refl _, Sub.refl _, Sub.of_eq (congrArg (AV.rw 5 V4) (by rw [wiK_0]; simp)), trivial⟩ ⟨⟨_, rfl, SubB.of_eq (by rw [wiK_0]; simp [intA])⟩, trivial⟩ fun a2 ha2 =>
 (fun (j : Nat) (W : Value) (hH2 : k ≤ j ∧ j ≤ l.length) => .r 3 <| .val 34 (show (aI ((l.map intA).length : Int) : AV) = aI (l.length : Int) from by rw [List.length_map]) <| .r 1 <| .br 35 (decide ((j : Int) < (l.length : Int))) (fun q5 => have p5 := decT q5; .r 2 <| .idxM l intA j (m := (j : Int)) rfl (by omega) fun x3 hx3 =>
 .r 3 <| .br 41 (x3 != n) (fun q6 => have p6 := bneT q6; .r 3 <| .idx j (m := (j : Int)) (xs := l.map intA) (e := intA x3) rfl (map_some hx3) <|
 .r 2 <| .app 8 W ((wiK l n k j).map intA) ([[aI x3]]) (by first | (simp only [List.length_map, List.length_cons, List.length_nil, List.length_take, List.length_append]; omega) | (have hw := wiK_le l n k j (by omega); simp only [List.length_map, List.length_cons, List.length_nil, List.length_append]; omega)) (by first | (simp only [List.length_map, List.length_cons, List.length_nil, List.length_take, List.length_append]; omega) | (have hw := wiK_le l n k j (by omega); simp only [List.length_map, List.length_cons, List.length_nil, List.length_append]; omega)) fun V5 =>
 .r 1 <| .run 3 [rng .i64 ((j : Int) + 1)] ⟨rng64 (by omega) (by omega), trivial⟩ <|
 .back L2 (j, W) ((j + 1), V5) (show k ≤ (j + 1) ∧ (j + 1) ≤ l.length from (by show _ ≤ _ ∧ _; omega)) (show l.length - (j + 1) < l.length - j from (by omega)) ⟨[(0, .sl 1 false (l.map intA)), (1, aI n), (6, aI ((j : Int) + 1)), (5, .rw 5 V5 (((wiK l n k j).map intA).length + ([[aI x3]] : List (List AV)).length))], [(5, .row V5 3 1 (((wiK l n k j).map intA) ++ ([[aI x3]])))]⟩ ⟨Sub.refl _, Sub.refl _, Sub.of_eq (congrArg aI (by first | omega | rfl)), Sub.of_eq (congrArg (AV.rw 5 V5) (by rw [wiK_yes hx3 (by omega) (by simpa [bne] using q6)]; simp)), trivial⟩ ⟨⟨_, rfl, SubB.of_eq (by rw [wiK_yes hx3 (by omega) (by simpa [bne] using q6)]; simp [intA])⟩, trivial⟩)
 <| fun q6 => have p6 := bneF q6; .run 3 [rng .i64 ((j : Int) + 1)] ⟨rng64 (by omega) (by omega), trivial⟩ <|
 .back L2 (j, W) ((j + 1), W) (show k ≤ (j + 1) ∧ (j + 1) ≤ l.length from (by show _ ≤ _ ∧ _; omega)) (show l.length - (j + 1) < l.length - j from (by omega)) ⟨[(0, .sl 1 false (l.map intA)), (1, aI n), (6, aI ((j : Int) + 1)), (5, .rw 5 W ((wiK l n k j).length))], [(5, .row W 3 1 ((wiK l n k j).map intA))]⟩ ⟨Sub.refl _, Sub.refl _, Sub.of_eq (congrArg aI (by first | omega | rfl)), Sub.of_eq (congrArg (AV.rw 5 W) (by rw [wiK_no hx3 (by omega) (by simpa [bne] using q6)])), trivial⟩ ⟨⟨_, rfl, SubB.of_eq (by rw [wiK_no hx3 (by omega) (by simpa [bne] using q6)])⟩, trivial⟩)
 <| fun q5 => have p5 := decF q5; .r 2 <| .frz 5 [4] [] [W = W, (wiK l n k j).length = ((wiK l n k j).map intA).length] ⟨rfl, (by first | rfl | (simp; done) | (simp; omega)), trivial⟩ <|
 .fin (x := .sl 1 false ((wiK l n k j).map intA)) (r := .sl 1 false ((withI l n).map intA)) [] trivial (by
    have hk : k = pN l n := by
      have hq := pN_le l n
      have hk1 := hH1.2
      omega
    have e : wiK l n k j = withI l n := by unfold withI; rw [hk, show j = l.length from by omega]
    rw [← e]
    first | exact Sub.refl _ | exact Sub.loose _ _ _)) a2.1 a2.2 ha2) a1.1 a1.2 ha1) Tryz.func53 rfl (by kernel_rfl) (by kernel_rfl)
def namedI (l : List Int) (f : Fsy) (d : Int) (s : Txt) : List Int := if isB (findN f d).l s = true then withI l (getI (findN f d).l s) else l
theorem named_len (l : List Int) (f : Fsy) (d : Int) (s : Txt) : (namedI l f d s).length ≤ l.length + 1 := by
  unfold namedI
  split
  · exact with_len _ _
  · omega
def rl0 (c : Cal) : List Int := withI (withI [] c.ino) c.to
theorem rl0_len (c : Cal) : (rl0 c).length ≤ 2 := by
  have := with_len [] c.ino
  have := with_len (withI [] c.ino) c.to
  unfold rl0
  simp at *
  omega
def rlooksF (f : Fsy) (c : Cal) : List Int := if c.kind = 15 then [0] else namedI (namedI (namedI (namedI (rl0 c) f c.ino c.name) f c.ino c.name2) f c.to c.name) f c.to c.name2
theorem named_spec (l : List Int) (f : Fsy) (d : Int) (s : Txt) (hp : rowsP f) (hs : s.length ≤ 1000000) (hll : l.length ≤ 100000) : FSpec Tryz.prog 54 [.sl 1 false (l.map intA), .agg [.sl 5 false (f.l.map nodA), aI f.next], aI d, aS s] (.sl 1 false ((namedI l f d s).map intA)) := by
  have hl := hp.1
  have hr := rows_rise hp
  exact spec_vc (F := Tryz.f54) 400 (
 .new fun b1 => .r 1 <| .run 2 [b1 = b1] rt1 <|
 .call (rfind_spec f d (by omega)) <|
 .r 3 <| .new fun b2 => .run 2 [b2 = b2] rt1 <|
 .run 3 [b2 = b2] rt1 <|
 .call (rnfind_spec (findN f d).l s (by have := (find_srt hp d).2; omega)) <|
 .r 5 <| .r 2 <| .br 27 (!(isB (findN f d).l s)) (fun q1 => have q1 := notT q1; have p1 := booF q1; .r 2 <| .fin (x := .sl 1 false (l.map intA)) (r := .sl 1 false ((namedI l f d s).map intA)) [] trivial (by
    rw [show namedI l f d s = _ from if_neg (by rw [q1]; decide)]
    exact Sub.refl _))
 <| fun q1 => have q1 := notF q1; have p1 := booT q1; .r 2 <| .call (with_spec l (getI (findN f d).l s) hll) <|
 .r 1 <| .fin (x := .sl 1 false ((withI l (getI (findN f d).l s)).map intA)) (r := .sl 1 false ((namedI l f d s).map intA)) [] trivial (by
    rw [show namedI l f d s = _ from if_pos q1]
    exact Sub.refl _)) Tryz.func54 rfl (by kernel_rfl) (by kernel_rfl)
theorem rlooks_spec (f : Fsy) (c : Cal) (okf : OkF f) (okc : OkCal c) (hp : rowsP f) : FSpec Tryz.prog 20 [.agg [.sl 5 false (f.l.map nodA), aI f.next], .agg [aI c.kind, aI c.ino, aI c.to, aI c.at_, aI c.many, aS c.name, aS c.name2, aS c.text]] (.sl 1 false ((rlooksF f c).map intA)) := by
  have hl := hp.1
  have hr := rows_rise hp
  have hcn := okc.name
  have hcn2 := okc.name2
  have hct := okc.text
  exact spec_vc (F := Tryz.f20) 400 (
 .new fun b1 => .new fun b2 => .r 1 <| .run 3 [b2 = b2] rt1 <|
 .br 8 (c.kind == 15) (fun q1 => have p1 := beqT q1; .r 2 <| .fin (x := .sl 1 true ([[aI 0]])) (r := .sl 1 false ((rlooksF f c).map intA)) [] trivial (by
    rw [show rlooksF f c = _ from if_pos (by omega)]
    first | exact Sub.refl _ | exact Sub.loose _ _ _))
 <| fun q1 => have p1 := beqF q1; .ord [0, 1, 3, 4, 2, 5, 6] <| .run 4 [b2 = b2, b2 = b2] rt2 <|
 .callS (args0 := [aN, aI c.ino]) (args := [.sl 1 false (([] : List Int).map intA), aI c.ino]) ⟨Sub.nil _ _, Sub.refl _, trivial⟩ (with_spec [] c.ino (by simp)) <|
 .call (with_spec (withI [] c.ino) c.to (by have := with_len [] c.ino; simp at this; omega)) <|
 .r 1 <| .ord [0, 1, 2, 3, 4, 5, 7, 8, 9, 10, 11, 13, 14, 15, 16, 17, 19, 20, 21, 22, 23, 6, 12, 18, 24, 25] <| .run 21 [b1 = b1, b2 = b2, b2 = b2, b1 = b1, b2 = b2, b2 = b2, b1 = b1, b2 = b2, b2 = b2, b1 = b1, b2 = b2, b2 = b2] ⟨rfl, rfl, rfl, rfl, rfl, rfl, rfl, rfl, rfl, rfl, rfl, rfl, trivial⟩ <|
 .call (named_spec (rl0 c) f c.ino c.name hp hcn (by first | (have := rl0_len c; omega) | (have h0 := rl0_len c; have h1 := named_len (rl0 c) f c.ino c.name; have h2 := named_len (namedI (rl0 c) f c.ino c.name) f c.ino c.name2; have h3 := named_len (namedI (namedI (rl0 c) f c.ino c.name) f c.ino c.name2) f c.to c.name; omega))) <|
 .call (named_spec (namedI (rl0 c) f c.ino c.name) f c.ino c.name2 hp hcn2 (by first | (have := rl0_len c; omega) | (have h0 := rl0_len c; have h1 := named_len (rl0 c) f c.ino c.name; have h2 := named_len (namedI (rl0 c) f c.ino c.name) f c.ino c.name2; have h3 := named_len (namedI (namedI (rl0 c) f c.ino c.name) f c.ino c.name2) f c.to c.name; omega))) <|
 .call (named_spec (namedI (namedI (rl0 c) f c.ino c.name) f c.ino c.name2) f c.to c.name hp hcn (by first | (have := rl0_len c; omega) | (have h0 := rl0_len c; have h1 := named_len (rl0 c) f c.ino c.name; have h2 := named_len (namedI (rl0 c) f c.ino c.name) f c.ino c.name2; have h3 := named_len (namedI (namedI (rl0 c) f c.ino c.name) f c.ino c.name2) f c.to c.name; omega))) <|
 .call (named_spec (namedI (namedI (namedI (rl0 c) f c.ino c.name) f c.ino c.name2) f c.to c.name) f c.to c.name2 hp hcn2 (by first | (have := rl0_len c; omega) | (have h0 := rl0_len c; have h1 := named_len (rl0 c) f c.ino c.name; have h2 := named_len (namedI (rl0 c) f c.ino c.name) f c.ino c.name2; have h3 := named_len (namedI (namedI (rl0 c) f c.ino c.name) f c.ino c.name2) f c.to c.name; omega))) <|
 .r 1 <| .fin (x := .sl 1 false ((namedI (namedI (namedI (namedI (rl0 c) f c.ino c.name) f c.ino c.name2) f c.to c.name) f c.to c.name2).map intA)) (r := .sl 1 false ((rlooksF f c).map intA)) [] trivial (by
    rw [show rlooksF f c = _ from if_neg (by omega)]
    first | exact Sub.refl _ | exact Sub.loose _ _ _)) Tryz.func20 rfl (by kernel_rfl) (by kernel_rfl)
def lk2 (l : List Ent) (ss : List Txt) (L : List Int) : List Int := ss.foldl (fun L s => if isB l s = true then L ++ [getI l s] else L) L
def lk1 (f : Fsy) (c : Cal) (L : List Int) (i : Int) : List Int := if dirE f i = 0 then lk2 (dirN f i).l [c.name, c.name2] L else L
def lk0 (f : Fsy) (c : Cal) (is : List Int) : List Int := is.foldl (lk1 f c) [c.ino, c.to]
def looksL (f : Fsy) (c : Cal) : List Int := lk0 f c [c.ino, c.to]
theorem lk2_yes {l : List Ent} {ss : List Txt} {L : List Int} {j : Nat} {s : Txt} (h : ss[j]? = some s) (q : isB l s = true) : lk2 l (ss.take (j + 1)) L = lk2 l (ss.take j) L ++ [getI l s] := by
  unfold lk2
  rw [take_step h, List.foldl_append, List.foldl_cons, List.foldl_nil, if_pos q]
theorem lk2_no {l : List Ent} {ss : List Txt} {L : List Int} {j : Nat} {s : Txt} (h : ss[j]? = some s) (q : isB l s = false) : lk2 l (ss.take (j + 1)) L = lk2 l (ss.take j) L := by
  unfold lk2
  rw [take_step h, List.foldl_append, List.foldl_cons, List.foldl_nil, if_neg (by rw [q]; decide)]
theorem lk0_step {f : Fsy} {c : Cal} {is : List Int} {j : Nat} {i : Int} (h : is[j]? = some i) : lk0 f c (is.take (j + 1)) = lk1 f c (lk0 f c (is.take j)) i := by
  unfold lk0
  rw [take_step h, List.foldl_append]; rfl
theorem lk2_len (l : List Ent) : ∀ (ss : List Txt) (L : List Int), L.length ≤ (lk2 l ss L).length ∧ (lk2 l ss L).length ≤ L.length + ss.length
  | [], L => ⟨Nat.le_refl _, Nat.le_refl _⟩
  | s :: r, L => by
    have h := lk2_len l r (if isB l s = true then L ++ [getI l s] else L)
    have e : lk2 l (s :: r) L = lk2 l r (if isB l s = true then L ++ [getI l s] else L) := rfl
    rw [e]
    have h2 : L.length ≤ (if isB l s = true then L ++ [getI l s] else L).length ∧ (if isB l s = true then L ++ [getI l s] else L).length ≤ L.length + 1 := by
      split
      · rw [List.length_append]; exact ⟨by omega, Nat.le_refl _⟩
      · exact ⟨Nat.le_refl _, by omega⟩
    have h3 : (s :: r).length = r.length + 1 := rfl
    omega
theorem lk0_len (f : Fsy) (c : Cal) : ∀ (is : List Int) (L : List Int), L.length ≤ (is.foldl (lk1 f c) L).length ∧ (is.foldl (lk1 f c) L).length ≤ L.length + 2 * is.length
  | [], L => ⟨Nat.le_refl _, Nat.le_refl _⟩
  | i :: r, L => by
    have h := lk0_len f c r (lk1 f c L i)
    have h2 : L.length ≤ (lk1 f c L i).length ∧ (lk1 f c L i).length ≤ L.length + 2 := by
      unfold lk1
      split
      · exact lk2_len _ _ _
      · exact ⟨Nat.le_refl _, by omega⟩
    have e : (i :: r).foldl (lk1 f c) L = r.foldl (lk1 f c) (lk1 f c L i) := rfl
    rw [e]
    simp only [List.length_cons]
    omega
theorem looks_len (f : Fsy) (c : Cal) : 2 ≤ (looksL f c).length ∧ (looksL f c).length ≤ 6 := by
  have := lk0_len f c [c.ino, c.to] [c.ino, c.to]
  unfold looksL lk0
  simp only [List.length_cons, List.length_nil] at this
  omega
theorem first_litT {t : Bool} (a b : Txt) : Sub (.sl 1 t [[aS a], [aS b]]) (.sl 1 false ([a, b].map txA)) := Sub.loose _ _ _
end Go.Proofs.YtkhnialfkndiiaaGreat
