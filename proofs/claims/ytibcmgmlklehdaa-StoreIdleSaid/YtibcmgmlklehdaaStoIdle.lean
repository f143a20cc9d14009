/- A store installed without changes; the law StoreIdle over data. -/
import Derived.Test.YtibcmgmlklehdaaStoSince
set_option linter.unusedVariables false
set_option linter.unusedSimpArgs false
namespace Go.Proofs.Ytibcmgmlklehdaa
open Go Go.RowKit Copyhold
theorem filterMap_same {α β : Type} {f g : α → Option β} : ∀ {l : List α}, (∀ x ∈ l, f x = g x) → l.filterMap f = l.filterMap g
  | [], _ => rfl
  | x :: r, h => by
    have ih := filterMap_same (f := f) (g := g) (l := r) fun y hy => h y (List.mem_cons_of_mem _ hy)
    have e := h x (List.mem_cons_self ..)
    rw [List.filterMap_cons, List.filterMap_cons, e, ih]
def idleD (s : Sto) : Sto := ⟨s.l, s.nexts, s.stamp + 1⟩
theorem idle_ok {s : Sto} (h : OkS s) (hp : storeP s) (hs : s.stamp < 1152921504606846976) : OkS (idleD s) :=
  ⟨⟨by show (-9223372036854775808 : Int) ≤ s.stamp + 1; have := hp.1; omega, by show s.stamp + 1 ≤ (9223372036854775807 : Int); omega⟩, h.2⟩
theorem cut_full {α : Type} {f : α → Int} {l : List α} {st b : Int} (h : ∀ x ∈ l, f x ≤ st) (hb : st ≤ b) : cutD f b l = l.length := by
  refine cut_eq _ _ _ _ (Nat.le_refl _) (fun j x hj hx => by have := lt_of_some hx; omega) ?_
  cases l with
  | nil => exact .inl rfl
  | cons v r =>
    right
    have hlt : (v :: r).length - 1 < (v :: r).length := by simp
    refine ⟨(v :: r)[(v :: r).length - 1], List.getElem?_eq_getElem hlt, ?_⟩
    have := h _ (List.getElem_mem hlt)
    omega
theorem later_last {s : Sto} (hp : storeP s) {c : Chn} (hc : c ∈ s.l) : laterB s.stamp c = false := by
  obtain ⟨k, hk⟩ := List.getElem?_of_mem hc
  have hch := (hp.2.2.2.at hk).1
  refine List.any_eq_false.2 fun v hv => ?_
  obtain ⟨j, hj⟩ := List.getElem?_of_mem hv
  have := (hch.2.1.2.at hj).2.1
  simp; omega
theorem nexts_le {s : Sto} (hp : storeP s) : ∀ c ∈ s.nexts, c.stamp ≤ s.stamp := fun c hc => by
  obtain ⟨j, hj⟩ := List.getElem?_of_mem hc
  exact (hp.2.1.2.at hj).2.1
theorem idle_view {s : Sto} (hp : storeP s) : viewD s s.stamp = viewD (idleD s) (s.stamp + 1) := by
  have h1 : s.l.filterMap (viewC s.stamp) = s.l.filterMap (viewC (s.stamp + 1)) := filterMap_same fun c hc => view_same (by omega) (later_last hp hc)
  have h2 : nextD s s.stamp = nextD (idleD s) (s.stamp + 1) := by
    show (match atD Cnt.stamp s.stamp s.nexts with | some c => c.next | none => 1) = (match atD Cnt.stamp (s.stamp + 1) s.nexts with | some c => c.next | none => 1)
    unfold atD
    rw [cut_full (nexts_le hp) (Int.le_refl _), cut_full (nexts_le hp) (by omega)]
  show Fsy.mk _ _ = Fsy.mk _ _
  rw [h1, h2]
  rfl
theorem idle_since {s : Sto} (hp : storeP s) : sinceD (idleD s) s.stamp = [] := since_last hp
set_option maxRecDepth 100000 in
set_option maxHeartbeats 4000000 in
theorem cloneC_spec (xs : List (List AV)) (hl : xs.length ≤ 100000) : FSpec Try.prog 49 [.sl 2 false xs] (.sl 2 false xs) := by
  exact spec_vc (F := Try.f49) 400 (
 .r 1 <| .r 1 <| .isNil xs fun b1 hnb1 =>
 .br 4 (b1) (fun q1 => have p1 := booT q1; .r 1 <| .fin (x := aN) (r := .sl 2 false xs) [] trivial (by
    rw [hnb1 (by assumption)]
    exact Sub.nil _ _))
 <| fun q1 => have p1 := booF q1; .lit0 fun V1 => .r 1 <| .app 32 V1 ([] : List (List AV)) xs (by simp <;> omega) (by simp <;> omega) fun V2 =>
 .r 1 <| .frz 5 [2] [] [V2 = V2, ([] : List (List AV)).length + xs.length = (([] : List (List AV)) ++ xs).length] ⟨rfl, (by first | rfl | (simp; done) | (simp; omega)), trivial⟩ <|
 .fin (x := .sl 2 false (([] : List (List AV)) ++ xs)) (r := .sl 2 false xs) [] trivial (by exact Sub.of_eq (by simp))) Try.func49 rfl (by kernel_rfl) (by kernel_rfl)
set_option maxRecDepth 100000 in
set_option maxHeartbeats 4000000 in
theorem inst0_spec (s : Sto) (oks : OkS s) (hp : storeP s) (hf : s.l.length ≤ 100000) (hs : s.stamp < 1152921504606846976) : FSpec Try.prog 23 [.agg [.sl 2 false (s.l.map chnA), .sl 2 false (s.nexts.map cntA), aI s.stamp], aN, aI 0] (.agg (stoA (idleD s))) := by
  have hp1 := hp.1
  have hn1 := hp.2.1.1
  have hn2 := oks.2.2.1
  exact spec_vc (F := Try.f23) 400 (
 .new fun b1 => .new fun b2 => .run 4 [b1 = b1, rng .i64 (s.stamp + 1)] ⟨rfl, rng64 (by omega) (by omega), trivial⟩ <|
 .ordA [0, 1, 3, 4, 5] [[2, 6, 7, 8], [7, 2, 6, 8]] <| .run 5 [b1 = b1, b1 = b1] ⟨rfl, rfl, trivial⟩ <|
 .alt (.call (cloneC_spec (s.l.map chnA) (by rw [List.length_map]; omega)) <|
 .r 1 <| .new fun b3 => .run 1 [b3 = b3] ⟨rfl, trivial⟩ <|
 .r 3 <| let L1 : Lp (Nat) := ⟨fun a1 => ⟨[(2, aI 0), (3, .ptr 3 b1 0), (6, .ptr 6 b2 0), (7, aI (s.stamp + 1)), (8, .ptr 8 b3 0), (26, aN), (27, aI 0), (28, aI (a1 : Int))], [(3, .box b1 25 [.sl 2 false (s.l.map chnA), .sl 2 false (s.nexts.map cntA), aI s.stamp]), (6, .box b2 25 [aN, aN, aI 0]), (8, .box b3 25 [.sl 2 false (s.l.map chnA), .sl 2 false (s.nexts.map cntA), aI (s.stamp + 1)])]⟩, fun a1 => 0 - a1, fun a1 => 0 ≤ a1⟩
 .loop L1 0 (show 0 ≤ 0 from Nat.zero_le _) ⟨[(2, aI 0), (3, .ptr 3 b1 0), (6, .ptr 6 b2 0), (7, aI (s.stamp + 1)), (8, .ptr 8 b3 0), (26, aN), (27, aI 0), (28, aI 0)], [(3, .box b1 25 [.sl 2 false (s.l.map chnA), .sl 2 false (s.nexts.map cntA), aI s.stamp]), (6, .box b2 25 [aN, aN, aI 0]), (8, .box b3 25 [.sl 2 false (s.l.map chnA), .sl 2 false (s.nexts.map cntA), aI (s.stamp + 1)])]⟩ ⟨Sub.refl _, Sub.refl _, Sub.refl _, Sub.refl _, Sub.refl _, Sub.refl _, Sub.refl _, Sub.of_eq (congrArg aI (by first | omega | rfl)), trivial⟩ ⟨⟨_, rfl, SubB.refl _⟩, ⟨_, rfl, SubB.refl _⟩, ⟨_, rfl, SubB.refl _⟩, trivial⟩ fun a1 ha1 =>
 (fun (k : Nat) (hH1 : 0 ≤ k) => .r 1 <| .is 29 (show (decide ((k : Int) < 0)) = false from (decide_eq_false (by simp <;> omega))) <| .run 3 [b1 = b1] ⟨rfl, trivial⟩ <|
 .val 88 (show (aI ((s.nexts.map cntA).length : Int) : AV) = aI (s.nexts.length : Int) from by rw [List.length_map]) <| .run 2 [rng .i64 ((s.nexts.length : Int) - 1)] ⟨rng64 (by omega) (by omega), trivial⟩ <|
 .r 3 <| .is 92 (show (decide (((s.nexts.length : Int) - 1) < 0)) = false from (decide_eq_false (by omega))) <| .run 4 [b1 = b1] ⟨rfl, trivial⟩ <|
 .idxM s.nexts cntA (s.nexts.length - 1) (m := (s.nexts.length : Int) - 1) (by omega) (by omega) fun x1 hx1 =>
 .r 4 <| .is 101 (show (decide (0 > x1.next)) = false from (decide_eq_false (by have := hp.2.2.1.at hx1; omega))) <| .run 2 [b3 = b3, b2 = b2] ⟨rfl, rfl, trivial⟩ <|
 .fin (x := .agg [.sl 2 false (s.l.map chnA), .sl 2 false (s.nexts.map cntA), aI (s.stamp + 1)]) (r := .agg (stoA (idleD s))) [b2 = b2] ⟨rfl, trivial⟩ (by exact Sub.of_eq rfl)) a1 ha1)
 <| .new fun b4 => .call (cloneC_spec (s.l.map chnA) (by rw [List.length_map]; omega)) <|
 .run 2 [b4 = b4] ⟨rfl, trivial⟩ <|
 .r 3 <| let L1 : Lp (Nat) := ⟨fun a1 => ⟨[(2, aI 0), (3, .ptr 3 b1 0), (6, .ptr 6 b2 0), (7, aI (s.stamp + 1)), (8, .ptr 8 b4 0), (26, aN), (27, aI 0), (28, aI (a1 : Int))], [(3, .box b1 25 [.sl 2 false (s.l.map chnA), .sl 2 false (s.nexts.map cntA), aI s.stamp]), (6, .box b2 25 [aN, aN, aI 0]), (8, .box b4 25 [.sl 2 false (s.l.map chnA), .sl 2 false (s.nexts.map cntA), aI (s.stamp + 1)])]⟩, fun a1 => 0 - a1, fun a1 => 0 ≤ a1⟩
 .loop L1 0 (show 0 ≤ 0 from Nat.zero_le _) ⟨[(2, aI 0), (3, .ptr 3 b1 0), (6, .ptr 6 b2 0), (7, aI (s.stamp + 1)), (8, .ptr 8 b4 0), (26, aN), (27, aI 0), (28, aI 0)], [(3, .box b1 25 [.sl 2 false (s.l.map chnA), .sl 2 false (s.nexts.map cntA), aI s.stamp]), (6, .box b2 25 [aN, aN, aI 0]), (8, .box b4 25 [.sl 2 false (s.l.map chnA), .sl 2 false (s.nexts.map cntA), aI (s.stamp + 1)])]⟩ ⟨Sub.refl _, Sub.refl _, Sub.refl _, Sub.refl _, Sub.refl _, Sub.refl _, Sub.refl _, Sub.of_eq (congrArg aI (by first | omega | rfl)), trivial⟩ ⟨⟨_, rfl, SubB.refl _⟩, ⟨_, rfl, SubB.refl _⟩, ⟨_, rfl, SubB.refl _⟩, trivial⟩ fun a1 ha1 =>
 (fun (k : Nat) (hH1 : 0 ≤ k) => .r 1 <| .is 29 (show (decide ((k : Int) < 0)) = false from (decide_eq_false (by simp <;> omega))) <| .run 3 [b1 = b1] ⟨rfl, trivial⟩ <|
 .val 88 (show (aI ((s.nexts.map cntA).length : Int) : AV) = aI (s.nexts.length : Int) from by rw [List.length_map]) <| .run 2 [rng .i64 ((s.nexts.length : Int) - 1)] ⟨rng64 (by omega) (by omega), trivial⟩ <|
 .r 3 <| .is 92 (show (decide (((s.nexts.length : Int) - 1) < 0)) = false from (decide_eq_false (by omega))) <| .run 4 [b1 = b1] ⟨rfl, trivial⟩ <|
 .idxM s.nexts cntA (s.nexts.length - 1) (m := (s.nexts.length : Int) - 1) (by omega) (by omega) fun x2 hx2 =>
 .r 4 <| .is 101 (show (decide (0 > x2.next)) = false from (decide_eq_false (by have := hp.2.2.1.at hx2; omega))) <| .run 2 [b4 = b4, b2 = b2] ⟨rfl, rfl, trivial⟩ <|
 .fin (x := .agg [.sl 2 false (s.l.map chnA), .sl 2 false (s.nexts.map cntA), aI (s.stamp + 1)]) (r := .agg (stoA (idleD s))) [b2 = b2] ⟨rfl, trivial⟩ (by exact Sub.of_eq rfl)) a1 ha1) Try.func23 rfl (by kernel_rfl) (by kernel_rfl)
set_option maxRecDepth 100000 in
set_option maxHeartbeats 4000000 in
theorem storeIdle_spec (s : Sto) (oks : OkS s) : FSpec Try.prog 5 [.agg [.sl 2 false (s.l.map chnA), .sl 2 false (s.nexts.map cntA), aI s.stamp]] (aB true) := by
  exact spec_vc (F := Try.f5) 400 (
 .new fun b1 => .r 1 <| .call (shown_spec) <|
 .r 1 <| .run 1 [b1 = b1] ⟨rfl, trivial⟩ <|
 .call (few_spec s oks) <|
 .r 2 <| .br 11 (!(dP (few s))) (fun q1 => have q1 := notT q1; have p1 := booF q1; .r 9 <| .r 2 <| .fin (x := aB true) (r := aB true) [] trivial (by exact Sub.of_eq (by first | rfl | (simp; done) | (refine congrArg aB ?_; rw [idle_since hp]; rfl))))
 <| fun q1 => have q1 := notF q1; have p1 := booT q1; have hfws := few_many (dP_true.1 q1); .run 1 [b1 = b1] ⟨rfl, trivial⟩ <|
 .call (rright_spec s oks) <|
 .r 3 <| .br 16 (!(dP (storeP s))) (fun q2 => have q2 := notT q2; have p2 := booF q2; .r 4 <| .r 2 <| .fin (x := aB true) (r := aB true) [] trivial (by exact Sub.of_eq (by first | rfl | (simp; done) | (refine congrArg aB ?_; rw [idle_since hp]; rfl))))
 <| fun q2 => have q2 := notF q2; have p2 := booT q2; have hp := dP_true.1 q2; have hp1 := hp.1; .run 4 [b1 = b1] ⟨rfl, trivial⟩ <|
 .br 20 (decide (s.stamp ≥ 1152921504606846976)) (fun q3 => have p3 := decT q3; .r 2 <| .fin (x := aB true) (r := aB true) [] trivial (by exact Sub.of_eq (by first | rfl | (simp; done) | (refine congrArg aB ?_; rw [idle_since hp]; rfl))))
 <| fun q3 => have p3 := decF q3; .run 1 [b1 = b1] ⟨rfl, trivial⟩ <|
 .call (inst0_spec s oks hp (by omega) (by omega)) <|
 .new fun b2 => .run 1 [b2 = b2] ⟨rfl, trivial⟩ <|
 .run 3 [b1 = b1, b1 = b1] ⟨rfl, rfl, trivial⟩ <|
 .call (view_spec s s.stamp oks (by omega)) <|
 .new fun b3 => .run 1 [b3 = b3] ⟨rfl, trivial⟩ <|
 .run 3 [b2 = b2, b2 = b2] ⟨rfl, rfl, trivial⟩ <|
 .call (view_spec (idleD s) ((idleD s).stamp) (idle_ok oks hp (by omega)) (show s.l.length ≤ 100000 from by omega)) <|
 .new fun b4 => .run 1 [b4 = b4] ⟨rfl, trivial⟩ <|
 .ord [0, 1, 2, 3, 4, 5, 6, 7, 8, 9, 10, 11, 12, 13, 14, 15, 17, 16, 18, 19, 20, 21, 22, 23, 24, 25, 26, 27, 28, 29] <| .run 10 [b2 = b2, b1 = b1, rng .i64 (s.stamp + 1)] ⟨rfl, rfl, rng64 (by omega) (by omega), trivial⟩ <|
 .is 41 (show (((idleD s).stamp) == (s.stamp + 1)) = true from (by simp [idleD])) <| .run 2 [b3 = b3, b4 = b4] ⟨rfl, rfl, trivial⟩ <|
 .call (fsame_spec (viewD s s.stamp) (viewD (idleD s) ((idleD s).stamp)) (view_ok oks s.stamp) (view_ok (idle_ok oks hp (by omega)) ((idleD s).stamp))) <|
 .r 2 <| .is 46 (show (dP ((viewD s s.stamp) = (viewD (idleD s) ((idleD s).stamp)))) = true from (dP_true.2 (idle_view hp))) <| .run 2 [b2 = b2, b1 = b1] ⟨rfl, rfl, trivial⟩ <|
 .call (many_spec (idleD s) (by have := (idle_ok oks hp (by omega)).2.1; omega) (show manyD s ≤ 100000 from by omega)) <|
 .call (many_spec s (by have := oks.2.1; omega) (by omega)) <|
 .r 3 <| .is 53 (show ((manyD (idleD s) : Int) == (manyD s : Int)) = true from (by simp [manyD, idleD])) <| .run 3 [b2 = b2, b1 = b1] ⟨rfl, rfl, trivial⟩ <|
 .call (since_spec (idleD s) s.stamp (idle_ok oks hp (by omega)) (show s.l.length ≤ 100000 from by omega)) <|
 .r 1 <| .val 58 (show (aI (((sinceD (idleD s) s.stamp).map intA).length : Int) : AV) = aI ((sinceD (idleD s) s.stamp).length : Int) from by rw [List.length_map]) <| .r 3 <| .fin (x := aB (((sinceD (idleD s) s.stamp).length : Int) == 0)) (r := aB true) [] trivial (by exact Sub.of_eq (by first | rfl | (simp; done) | (refine congrArg aB ?_; rw [idle_since hp]; rfl)))) Try.func5 rfl (by kernel_rfl) (by kernel_rfl)
end Go.Proofs.Ytibcmgmlklehdaa
