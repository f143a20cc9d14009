/- The law StoreSince over data. -/
import Derived.Test.YtibcmgmlklehdaaStoC
set_option linter.unusedVariables false
set_option linter.unusedSimpArgs false
namespace Go.Proofs.Ytibcmgmlklehdaa
open Go Go.RowKit Copyhold

theorem findB_some (f : Fsy) (i : Int) : findB f i = (f.l.find? (isNo i)).isSome := by
  unfold findB
  induction f.l with
  | nil => rfl
  | cons n r ih =>
    simp only [List.any_cons, List.find?_cons]
    cases h : isNo i n <;> simp [ih]
theorem view_same {st last : Int} {c : Chn} (hle : st ≤ last) (h : laterB st c = false) : viewC st c = viewC last c := by
  have h0 : ∀ v ∈ c.l, v.stamp ≤ st := fun v hv => by
    have := List.any_eq_false.1 h v hv
    simp at this
    exact this
  have key : ∀ b, st ≤ b → cutD Ver.stamp b c.l = c.l.length := fun b hb => by
    refine cut_eq _ _ _ _ (Nat.le_refl _) (fun j x hj hx => by have := lt_of_some hx; omega) ?_
    cases hl : c.l with
    | nil => exact .inl rfl
    | cons v r =>
      right
      have hlt : (v :: r).length - 1 < (v :: r).length := by simp
      refine ⟨(v :: r)[(v :: r).length - 1], List.getElem?_eq_getElem hlt, ?_⟩
      have := h0 _ (by rw [hl]; exact List.getElem_mem hlt)
      omega
  unfold viewC atD
  rw [key st (Int.le_refl _), key last hle]
theorem viewC_ino {s : Sto} (hp : storeP s) {c : Chn} (hc : c ∈ s.l) {st : Int} {n : Nod} (h : viewC st c = some n) : n.ino = c.ino := by
  obtain ⟨k, hk⟩ := List.getElem?_of_mem hc
  have hch := (hp.2.2.2.at hk).1
  unfold viewC at h
  split at h
  · rename_i v hv
    split at h
    · cases h
    · rename_i hg
      obtain rfl := Option.some.inj h
      obtain ⟨j, hj⟩ := List.getElem?_of_mem (atD_mem hv)
      exact ((hch.2.2 j v hj).2 (by simpa using hg)).2
  · cases h
theorem find_view {st last i : Int} : ∀ {l : List Chn}, (∀ c ∈ l, c.ino = i → viewC st c = viewC last c) → (∀ c ∈ l, ∀ b n, viewC b c = some n → n.ino = c.ino) →
    (l.filterMap (viewC st)).find? (isNo i) = (l.filterMap (viewC last)).find? (isNo i)
  | [], _, _ => rfl
  | c :: r, h1, h2 => by
    have ih := find_view (l := r) (fun d hd => h1 d (by simp [hd])) (fun d hd => h2 d (by simp [hd]))
    have no : ∀ b n, viewC b c = some n → c.ino ≠ i → isNo i n = false := fun b n hn hne => by
      have := h2 c (by simp) b n hn
      simp [isNo, this, hne]
    by_cases hi : c.ino = i
    · have e := h1 c (by simp) hi
      simp only [List.filterMap_cons, e]
      cases viewC last c with
      | none => exact ih
      | some n => simp only [List.find?_cons, ih]
    · simp only [List.filterMap_cons]
      cases ha : viewC st c with
      | none =>
        cases hb : viewC last c with
        | none => exact ih
        | some n => simp only [List.find?_cons, no _ _ hb hi]; exact ih
      | some m =>
        cases hb : viewC last c with
        | none => simp only [List.find?_cons, no _ _ ha hi]; exact ih
        | some n => simp only [List.find?_cons, no _ _ ha hi, no _ _ hb hi]; exact ih
theorem since_changes {s : Sto} {st : Int} (hp : storeP s) (hle : st ≤ s.stamp) : ∀ c ∈ changesD (viewD s st) (viewD s s.stamp), c.ino ∈ sinceD s st := by
  intro c hc
  refine Classical.byContradiction fun hn => ?_
  obtain ⟨i, hi, hch⟩ := List.mem_filterMap.1 hc
  have hino : c.ino = i := by
    unfold chgD at hch
    split at hch
    · obtain rfl := Option.some.inj hch; rfl
    · split at hch
      · obtain rfl := Option.some.inj hch; rfl
      · cases hch
  rw [hino] at hn
  have hno : ∀ d ∈ s.l, d.ino = i → viewC st d = viewC s.stamp d := fun d hd he => by
    refine view_same hle (Bool.eq_false_iff.2 fun hl => hn ?_)
    have hm : i ∈ laterL s st s.l.length := by
      unfold laterL
      rw [take_all (Nat.le_refl _)]
      exact List.mem_map.2 ⟨d, List.mem_filter.2 ⟨hd, hl⟩, he⟩
    unfold sinceD
    rw [if_pos (.inl (by have := List.length_pos_of_mem hm; omega))]
    exact List.mem_cons_of_mem _ hm
  have hf := find_view (i := i) hno (fun d hd b n hv => viewC_ino hp hd hv)
  have e1 : (viewD s st).l.find? (isNo i) = (viewD s s.stamp).l.find? (isNo i) := hf
  have eB : findB (viewD s st) i = findB (viewD s s.stamp) i := by rw [findB_some, findB_some, e1]
  have eN : findN (viewD s st) i = findN (viewD s s.stamp) i := by unfold findN; rw [e1]
  have hany : findB (viewD s st) i = true := by
    have key : ∀ f : Fsy, (∃ n ∈ f.l, n.ino = i) → findB f i = true := fun f ⟨n, hn, he⟩ => List.any_eq_true.2 ⟨n, hn, by simp [isNo, he]⟩
    rcases mem_noRow hi with h | h
    · rcases mem_noRow h with h | h
      · cases h
      · exact key _ h
    · rw [eB]; exact key _ h
  unfold chgD at hch
  rw [if_neg (by rw [← eB, hany]; simp), if_neg (fun h => h.elim (fun h => by rw [hany] at h; cases h) (fun h => h eN))] at hch
  cases hch
theorem view_len (s : Sto) (st : Int) : (viewD s st).l.length ≤ s.l.length := List.length_filterMap_le _ _
theorem chg_view_le (s : Sto) (st : Int) : (changesD (viewD s st) (viewD s s.stamp)).length ≤ 2 * s.l.length := by
  have h1 := List.length_filterMap_le (chgD (viewD s st) (viewD s s.stamp)) (allNo (viewD s st) (viewD s s.stamp))
  have h2 := noRow_le (noRow [] (viewD s st).l) (viewD s s.stamp).l
  have h3 := noRow_le [] (viewD s st).l
  have h4 := view_len s st
  have h5 := view_len s s.stamp
  simp only [List.length_nil] at h3
  show (List.filterMap _ (allNo _ _)).length ≤ _
  unfold allNo at h1 ⊢
  omega
theorem since_last {s : Sto} (hp : storeP s) : sinceD s s.stamp = [] := by
  have h1 : ∀ c ∈ s.l, laterB s.stamp c = false := fun c hc => by
    obtain ⟨k, hk⟩ := List.getElem?_of_mem hc
    have hch := (hp.2.2.2.at hk).1
    refine List.any_eq_false.2 fun v hv => ?_
    obtain ⟨j, hj⟩ := List.getElem?_of_mem hv
    have := (hch.2.1.2.at hj).2.1
    simp; omega
  have h2 : laterL s s.stamp s.l.length = [] := by
    unfold laterL
    rw [take_all (Nat.le_refl _), List.filter_eq_nil_iff.2 (fun c hc => by simp [h1 c hc])]
    rfl
  have h3 : moreB s s.stamp = false := by
    refine List.any_eq_false.2 fun c hc => ?_
    obtain ⟨j, hj⟩ := List.getElem?_of_mem hc
    have := (hp.2.1.2.at hj).2.1
    simp; omega
  unfold sinceD
  rw [h2, h3]
  simp
theorem since_head {s : Sto} {st : Int} (h : ¬ ((sinceD s st).length : Int) = 0) : (sinceD s st)[0]? = some 0 := by
  unfold sinceD at h ⊢
  split
  · rfl
  · rename_i hn
    rw [if_neg hn] at h
    exact absurd rfl h
theorem since_lt {s : Sto} {st : Int} (hp : storeP s) (h : ¬ ((sinceD s st).length : Int) = 0) : st < s.stamp := by
  refine Classical.byContradiction fun hn => h ?_
  have hge : s.stamp ≤ st := by omega
  have h1 : ∀ c ∈ s.l, laterB st c = false := fun c hc => by
    obtain ⟨k, hk⟩ := List.getElem?_of_mem hc
    have hch := (hp.2.2.2.at hk).1
    refine List.any_eq_false.2 fun v hv => ?_
    obtain ⟨j, hj⟩ := List.getElem?_of_mem hv
    have := (hch.2.1.2.at hj).2.1
    simp; omega
  have h2 : laterL s st s.l.length = [] := by
    unfold laterL
    rw [take_all (Nat.le_refl _), List.filter_eq_nil_iff.2 (fun c hc => by simp [h1 c hc])]
    rfl
  have h3 : moreB s st = false := by
    refine List.any_eq_false.2 fun c hc => ?_
    obtain ⟨j, hj⟩ := List.getElem?_of_mem hc
    have := (hp.2.1.2.at hj).2.1
    simp; omega
  unfold sinceD
  rw [h2, h3]
  simp
theorem since_no {s : Sto} {st : Int} {c : Chg} {k j : Nat} {b : Bool} (hp : storeP s) (hc : (changesD (viewD s st) (viewD s s.stamp))[k]? = some c) (hj : (sinceD s st).length ≤ j) (hb : b = ((sinceD s st).take j).any (fun x => x == c.ino)) (q : b = false) (hle : st ≤ s.stamp) : False := by
  have := since_changes hp hle c (List.mem_of_getElem? hc)
  rw [take_all hj] at hb
  rw [q] at hb
  have h2 := List.any_eq_false.1 hb.symm _ this
  simp at h2
set_option maxRecDepth 100000 in
set_option maxHeartbeats 4000000 in
theorem storeSince_spec (s : Sto) (st : Int) (oks : OkS s) : FSpec Try.prog 4 [.agg [.sl 2 false (s.l.map chnA), .sl 2 false (s.nexts.map cntA), aI s.stamp], aI st] (aB true) := by
  exact spec_vc (F := Try.f4) 400 (
 .new fun b1 => .r 1 <| .call (shown_spec) <|
 .r 1 <| .run 1 [b1 = b1] ⟨rfl, trivial⟩ <|
 .call (few_spec s oks) <|
 .r 2 <| .br 15 (!(dP (few s))) (fun q1 => have q1 := notT q1; have p1 := booF q1; .r 4 <| .r 2 <| .fin (x := aB true) (r := aB true) [] trivial (by exact Sub.of_eq (by first | rfl | (simp; done) | (exact congrArg aB (decide_eq_true (since_lt hp (by assumption)))))))
 <| fun q1 => have q1 := notF q1; have p1 := booT q1; have hfws := few_many (dP_true.1 q1); .run 1 [b1 = b1] ⟨rfl, trivial⟩ <|
 .call (rright_spec s oks) <|
 .r 2 <| .br 19 (!(dP (storeP s))) (fun q2 => have q2 := notT q2; have p2 := booF q2; .r 2 <| .fin (x := aB true) (r := aB true) [] trivial (by exact Sub.of_eq (by first | rfl | (simp; done) | (exact congrArg aB (decide_eq_true (since_lt hp (by assumption)))))))
 <| fun q2 => have q2 := notF q2; have p2 := booT q2; have hp := dP_true.1 q2; have hsl := since_le s st; have hcg := chg_view_le s st; .run 2 [b1 = b1] ⟨rfl, trivial⟩ <|
 .call (since_spec s st oks (by omega)) <|
 .r 1 <| .ord [0, 1, 3, 4, 5, 2, 6, 7, 8] <| .run 5 [b1 = b1, b1 = b1, b1 = b1] ⟨rfl, rfl, rfl, trivial⟩ <|
 .call (view_spec s st oks (by omega)) <|
 .call (view_spec s s.stamp oks (by omega)) <|
 .call (rchanges_spec (viewD s st) (viewD s s.stamp) (view_ok oks _) (view_ok oks _) (Nat.le_trans (view_len _ _) (by omega)) (Nat.le_trans (view_len _ _) (by omega))) <|
 .r 1 <| .r 1 <| let L1 : Lp (Nat) := ⟨fun a1 => ⟨[(1, aI st), (2, .ptr 2 b1 0), (5, aB true), (6, .sl 1 false ((sinceD s st).map intA)), (7, .sl 7 false ((changesD (viewD s st) (viewD s s.stamp)).map chgA)), (8, aI (a1 : Int))], [(2, .box b1 25 [.sl 2 false (s.l.map chnA), .sl 2 false (s.nexts.map cntA), aI s.stamp])]⟩, fun a1 => (changesD (viewD s st) (viewD s s.stamp)).length - a1, fun a1 => a1 ≤ (changesD (viewD s st) (viewD s s.stamp)).length⟩
 .loop L1 0 (show 0 ≤ (changesD (viewD s st) (viewD s s.stamp)).length from Nat.zero_le _) ⟨[(1, aI st), (2, .ptr 2 b1 0), (5, aB true), (6, .sl 1 false ((sinceD s st).map intA)), (7, .sl 7 false ((changesD (viewD s st) (viewD s s.stamp)).map chgA)), (8, aI 0)], [(2, .box b1 25 [.sl 2 false (s.l.map chnA), .sl 2 false (s.nexts.map cntA), aI s.stamp])]⟩ ⟨Sub.refl _, Sub.refl _, Sub.refl _, Sub.refl _, Sub.refl _, Sub.of_eq (congrArg aI (by first | omega | rfl)), trivial⟩ ⟨⟨_, rfl, SubB.refl _⟩, trivial⟩ fun a1 ha1 =>
 (fun (k : Nat) (hH1 : k ≤ (changesD (viewD s st) (viewD s s.stamp)).length) => .r 3 <| .val 34 (show (aI (((changesD (viewD s st) (viewD s s.stamp)).map chgA).length : Int) : AV) = aI ((changesD (viewD s st) (viewD s s.stamp)).length : Int) from by rw [List.length_map]) <| .r 1 <| .br 35 (decide ((k : Int) < ((changesD (viewD s st) (viewD s s.stamp)).length : Int))) (fun q3 => have p3 := decT q3; .r 1 <| .r 1 <| .ex (some_of (l := (changesD (viewD s st) (viewD s s.stamp))) (k := k) (by omega)) fun x1 hx1 =>
 let L2 : Lp (Nat × Bool) := ⟨fun a2 => ⟨[(1, aI st), (2, .ptr 2 b1 0), (5, aB true), (6, .sl 1 false ((sinceD s st).map intA)), (7, .sl 7 false ((changesD (viewD s st) (viewD s s.stamp)).map chgA)), (8, aI (k : Int)), (10, aI (a2.1 : Int)), (9, aB a2.2)], [(2, .box b1 25 [.sl 2 false (s.l.map chnA), .sl 2 false (s.nexts.map cntA), aI s.stamp])]⟩, fun a2 => (sinceD s st).length - a2.1, fun a2 => a2.1 ≤ (sinceD s st).length ∧ a2.2 = ((sinceD s st).take a2.1).any (fun y => y == x1.ino)⟩
 .loop L2 (0, false) (show 0 ≤ (sinceD s st).length ∧ false = ((sinceD s st).take 0).any (fun y => y == x1.ino) from ⟨Nat.zero_le _, rfl⟩) ⟨[(1, aI st), (2, .ptr 2 b1 0), (5, aB true), (6, .sl 1 false ((sinceD s st).map intA)), (7, .sl 7 false ((changesD (viewD s st) (viewD s s.stamp)).map chgA)), (8, aI (k : Int)), (10, aI 0), (9, aB false)], [(2, .box b1 25 [.sl 2 false (s.l.map chnA), .sl 2 false (s.nexts.map cntA), aI s.stamp])]⟩ ⟨Sub.refl _, Sub.refl _, Sub.refl _, Sub.refl _, Sub.refl _, Sub.refl _, Sub.of_eq (congrArg aI (by first | omega | rfl)), Sub.refl _, trivial⟩ ⟨⟨_, rfl, SubB.refl _⟩, trivial⟩ fun a2 ha2 =>
 (fun (j : Nat) (inb : Bool) (hH2 : j ≤ (sinceD s st).length ∧ inb = ((sinceD s st).take j).any (fun y => y == x1.ino)) => .r 3 <| .val 40 (show (aI (((sinceD s st).map intA).length : Int) : AV) = aI ((sinceD s st).length : Int) from by rw [List.length_map]) <| .r 1 <| .br 41 (decide ((j : Int) < ((sinceD s st).length : Int))) (fun q4 => have p4 := decT q4; .ord [0, 1, 2, 3, 4, 5, 6, 7, 8, 9, 10, 11, 12, 13] <| .r 2 <| .br 45 (inb) (fun q5 => have p5 := booT q5; .r 12 <| .run 3 [rng .i64 ((j : Int) + 1)] ⟨rng64 (by omega) (by omega), trivial⟩ <|
 .back L2 (j, inb) ((j + 1), true) (show (j + 1) ≤ (sinceD s st).length ∧ true = ((sinceD s st).take (j + 1)).any (fun y => y == x1.ino) from ⟨by omega, (by obtain ⟨y, hy⟩ := some_of (l := sinceD s st) (k := j) (by omega); rw [any_take hy, ← hH2.2, q5, Bool.true_or])⟩) (show (sinceD s st).length - (j + 1) < (sinceD s st).length - j from (by omega)) ⟨[(1, aI st), (2, .ptr 2 b1 0), (5, aB true), (6, .sl 1 false ((sinceD s st).map intA)), (7, .sl 7 false ((changesD (viewD s st) (viewD s s.stamp)).map chgA)), (8, aI (k : Int)), (10, aI ((j : Int) + 1)), (9, aB true)], [(2, .box b1 25 [.sl 2 false (s.l.map chnA), .sl 2 false (s.nexts.map cntA), aI s.stamp])]⟩ ⟨Sub.refl _, Sub.refl _, Sub.refl _, Sub.refl _, Sub.refl _, Sub.refl _, Sub.of_eq (congrArg aI (by first | omega | rfl)), Sub.refl _, trivial⟩ ⟨⟨_, rfl, SubB.refl _⟩, trivial⟩)
 <| fun q5 => have p5 := booF q5; .r 2 <| .idxM (sinceD s st) intA j (m := (j : Int)) rfl (by omega) fun x2 hx2 =>
 .r 3 <| .idx k (m := (k : Int)) (xs := (changesD (viewD s st) (viewD s s.stamp)).map chgA) (e := chgA x1) rfl (map_some hx1) <|
 .r 5 <| .run 3 [rng .i64 ((j : Int) + 1)] ⟨rng64 (by omega) (by omega), trivial⟩ <|
 .back L2 (j, inb) ((j + 1), x2 == x1.ino) (show (j + 1) ≤ (sinceD s st).length ∧ (x2 == x1.ino) = ((sinceD s st).take (j + 1)).any (fun y => y == x1.ino) from ⟨by omega, by rw [any_take hx2, ← hH2.2, q5, Bool.false_or]⟩) (show (sinceD s st).length - (j + 1) < (sinceD s st).length - j from (by omega)) ⟨[(1, aI st), (2, .ptr 2 b1 0), (5, aB true), (6, .sl 1 false ((sinceD s st).map intA)), (7, .sl 7 false ((changesD (viewD s st) (viewD s s.stamp)).map chgA)), (8, aI (k : Int)), (10, aI ((j : Int) + 1)), (9, aB (x2 == x1.ino))], [(2, .box b1 25 [.sl 2 false (s.l.map chnA), .sl 2 false (s.nexts.map cntA), aI s.stamp])]⟩ ⟨Sub.refl _, Sub.refl _, Sub.refl _, Sub.refl _, Sub.refl _, Sub.refl _, Sub.of_eq (congrArg aI (by first | omega | rfl)), Sub.refl _, trivial⟩ ⟨⟨_, rfl, SubB.refl _⟩, trivial⟩)
 <| fun q4 => have p4 := decF q4; .r 3 <| .br 59 (!inb) (fun q6 => have q6 := notT q6; have p6 := booF q6; .run 5 [b1 = b1] ⟨rfl, trivial⟩ <|
 .br 64 (decide (st ≤ s.stamp)) (fun q7 => have p7 := decT q7; .no (by exact since_no hp hx1 (by omega) hH2.2 q6 (by omega)))
 <| fun q7 => have p7 := decF q7; .run 3 [rng .i64 ((k : Int) + 1)] ⟨rng64 (by omega) (by omega), trivial⟩ <|
 .back L1 k (k + 1) (show (k + 1) ≤ (changesD (viewD s st) (viewD s s.stamp)).length from (by show _ ≤ _; omega)) (show (changesD (viewD s st) (viewD s s.stamp)).length - (k + 1) < (changesD (viewD s st) (viewD s s.stamp)).length - k from (by omega)) ⟨[(1, aI st), (2, .ptr 2 b1 0), (5, aB true), (6, .sl 1 false ((sinceD s st).map intA)), (7, .sl 7 false ((changesD (viewD s st) (viewD s s.stamp)).map chgA)), (8, aI ((k : Int) + 1))], [(2, .box b1 25 [.sl 2 false (s.l.map chnA), .sl 2 false (s.nexts.map cntA), aI s.stamp])]⟩ ⟨Sub.refl _, Sub.refl _, Sub.refl _, Sub.refl _, Sub.refl _, Sub.of_eq (congrArg aI (by first | omega | rfl)), trivial⟩ ⟨⟨_, rfl, SubB.refl _⟩, trivial⟩)
 <| fun q6 => have q6 := notF q6; have p6 := booT q6; .r 5 <| .run 3 [rng .i64 ((k : Int) + 1)] ⟨rng64 (by omega) (by omega), trivial⟩ <|
 .back L1 k (k + 1) (show (k + 1) ≤ (changesD (viewD s st) (viewD s s.stamp)).length from (by show _ ≤ _; omega)) (show (changesD (viewD s st) (viewD s s.stamp)).length - (k + 1) < (changesD (viewD s st) (viewD s s.stamp)).length - k from (by omega)) ⟨[(1, aI st), (2, .ptr 2 b1 0), (5, aB true), (6, .sl 1 false ((sinceD s st).map intA)), (7, .sl 7 false ((changesD (viewD s st) (viewD s s.stamp)).map chgA)), (8, aI ((k : Int) + 1))], [(2, .box b1 25 [.sl 2 false (s.l.map chnA), .sl 2 false (s.nexts.map cntA), aI s.stamp])]⟩ ⟨Sub.refl _, Sub.refl _, Sub.refl _, Sub.refl _, Sub.refl _, Sub.of_eq (congrArg aI (by first | omega | rfl)), trivial⟩ ⟨⟨_, rfl, SubB.refl _⟩, trivial⟩) a2.1 a2.2 ha2)
 <| fun q3 => have p3 := decF q3; .run 5 [b1 = b1, b1 = b1] ⟨rfl, rfl, trivial⟩ <|
 .call (since_spec s s.stamp oks (by omega)) <|
 .r 1 <| .val 71 (show (aI (((sinceD s s.stamp).map intA).length : Int) : AV) = aI ((sinceD s s.stamp).length : Int) from by rw [List.length_map]) <| .r 3 <| .is 74 (show (((sinceD s s.stamp).length : Int) == 0) = true from (by rw [since_last hp]; rfl)) <| .r 2 <| .val 76 (show (aI (((sinceD s st).map intA).length : Int) : AV) = aI ((sinceD s st).length : Int) from by rw [List.length_map]) <| .r 2 <| .br 78 (((sinceD s st).length : Int) == 0) (fun q8 => have p8 := beqT q8; .r 13 <| .fin (x := aB true) (r := aB true) [] trivial (by exact Sub.of_eq (by first | rfl | (simp; done) | (exact congrArg aB (decide_eq_true (since_lt hp (by assumption)))))))
 <| fun q8 => have p8 := beqF q8; .r 1 <| .idx 0 (m := 0) (xs := (sinceD s st).map intA) (e := [aI 0]) rfl (map_some (f := intA) (since_head (by assumption))) <|
 .r 3 <| .is 83 (show (0 == 0) = true from (by simp)) <| .run 8 [b1 = b1] ⟨rfl, trivial⟩ <|
 .fin (x := aB (decide (st < s.stamp))) (r := aB true) [] trivial (by exact Sub.of_eq (by first | rfl | (simp; done) | (exact congrArg aB (decide_eq_true (since_lt hp (by assumption))))))) a1 ha1) Try.func4 rfl (by kernel_rfl) (by kernel_rfl)
end Go.Proofs.Ytibcmgmlklehdaa
