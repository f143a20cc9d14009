/- store.Sweep without pins. -/
import Derived.Test.YtibcmgmlklehdaaStoKp
set_option linter.unusedVariables false
set_option linter.unusedSimpArgs false
namespace Go.Proofs.Ytibcmgmlklehdaa
open Go Go.RowKit Copyhold
def chnT (c : Chn) : List AV := [aI c.ino, .sl 7 true (c.l.map verA)]
theorem chnT_sub {l : List Chn} {t : Bool} : Sub (.sl 2 t (l.map chnT)) (.sl 2 false (l.map chnA)) :=
  (Sub.sl2 (xs := l.map chnT) (ys := l.map chnA) (by simp) (fun i a b ha hb => by
    rw [List.getElem?_map] at ha hb
    cases hc : l[i]? with
    | none => rw [hc] at ha; cases ha
    | some c =>
      rw [hc] at ha hb
      obtain rfl := Option.some.inj ha
      obtain rfl := Option.some.inj hb
      exact ⟨Sub.refl _, Sub.loose _ _ _, trivial⟩)).trans (Sub.loose _ _ _)
def sweepL (s : Sto) (k : Nat) : List Chn := (s.l.take k).filterMap (lastC s.stamp)
theorem sweepL_yes {s : Sto} {k : Nat} {c d : Chn} (hc : s.l[k]? = some c) (h : lastC s.stamp c = some d) : sweepL s (k + 1) = sweepL s k ++ [d] := by
  unfold sweepL; rw [take_step hc, List.filterMap_append]; simp [h]
theorem sweepL_no {s : Sto} {k : Nat} {c : Chn} (hc : s.l[k]? = some c) (h : lastC s.stamp c = none) : sweepL s (k + 1) = sweepL s k := by
  unfold sweepL; rw [take_step hc, List.filterMap_append]; simp [h]
theorem sweepL_le (s : Sto) (k : Nat) : (sweepL s k).length ≤ k := by
  have := List.length_filterMap_le (lastC s.stamp) (s.l.take k)
  rw [List.length_take] at this
  unfold sweepL; omega
theorem keepN_eq (st : Int) (l : List Cnt) : keepN st l = keepL Cnt.stamp st l := by unfold keepN keepL; cases atD Cnt.stamp st l <;> rfl
def KeepM (st : Int) (c : Chn) (m : Nat) : Prop := m ≤ (keepL Ver.stamp st c.l).length ∧ (1 ≤ m → ∃ v, keepL Ver.stamp st c.l = [v] ∧ v.gone = true)
theorem keepM0 (st : Int) (c : Chn) : KeepM st c 0 := ⟨Nat.zero_le _, fun h => by omega⟩
theorem keepM_zero {st : Int} {c : Chn} {m : Nat} {v : Ver} (h : KeepM st c m) (hv : ((keepL Ver.stamp st c.l).drop m)[0]? = some v) : m = 0 ∧ keepL Ver.stamp st c.l = [v] := by
  have h1 := keepL_le Ver.stamp st c.l
  rw [List.getElem?_drop] at hv
  have h2 := lt_of_some hv
  obtain rfl : m = 0 := by omega
  refine ⟨rfl, ?_⟩
  simp only [Nat.add_zero] at hv
  match hk : keepL Ver.stamp st c.l, hv, h1 with
  | [u], hv, _ => simp at hv; rw [hv]
  | [], hv, _ => simp at hv
  | _ :: _ :: _, _, h1 => simp [hk] at h1
theorem keepM_step {st : Int} {c : Chn} {m : Nat} {v : Ver} (h : KeepM st c m) (hv : ((keepL Ver.stamp st c.l).drop m)[0]? = some v) (hg : v.gone = true) : KeepM st c (m + 1) := by
  obtain ⟨rfl, h2⟩ := keepM_zero h hv
  exact ⟨by rw [h2]; simp, fun _ => ⟨v, h2, hg⟩⟩
theorem keep_at {st : Int} {c : Chn} {v : Ver} (h : keepL Ver.stamp st c.l = [v]) : atD Ver.stamp st c.l = some v := by
  unfold keepL at h
  split at h
  · rename_i u hu; rw [hu]; simpa using h
  · cases h
theorem keepM_yes {st : Int} {c : Chn} {m : Nat} {v : Ver} (h : KeepM st c m) (hv : ((keepL Ver.stamp st c.l).drop m)[0]? = some v) (hg : v.gone = false) : lastC st c = some ⟨c.ino, (keepL Ver.stamp st c.l).drop m⟩ := by
  obtain ⟨rfl, h2⟩ := keepM_zero h hv
  unfold lastC
  rw [keep_at h2, List.drop_zero, h2]
  simp [hg]
theorem keepM_no {st : Int} {c : Chn} {m : Nat} (h : KeepM st c m) (hl : ¬ (((keepL Ver.stamp st c.l).drop m).length : Int) > 0) : lastC st c = none := by
  by_cases hm : 1 ≤ m
  · obtain ⟨v, h1, h2⟩ := h.2 hm
    unfold lastC
    rw [keep_at h1]
    simp [h2]
  · obtain rfl : m = 0 := by omega
    rw [List.drop_zero] at hl
    unfold lastC
    split
    · rename_i v hv
      have : keepL Ver.stamp st c.l = [v] := by unfold keepL; rw [hv]
      rw [this] at hl
      simp at hl
    · rfl
set_option maxRecDepth 100000 in
set_option maxHeartbeats 4000000 in
theorem sweep_spec (s : Sto) (oks : OkS s) (hf : s.l.length ≤ 100000) : FSpec Try.prog 25 [.agg [.sl 2 false (s.l.map chnA), .sl 2 false (s.nexts.map cntA), aI s.stamp], aN] (.agg (stoA (sweepD s))) := by
  have hb1 := oks.2.1
  have hb2 := oks.2.2.1
  exact spec_vc (F := Try.f25) 400 (
 .new fun b1 => .new fun b2 => .call (stamps_spec) <|
 .r 5 <| .run 5 [b1 = b1] ⟨rfl, trivial⟩ <|
 .callS (args0 := [aN, aI 0, aI s.stamp]) (args := [.sl 1 false ([].map intA), aI ((0 : Nat) : Int), aI s.stamp]) ⟨Sub.nil _ _, Sub.of_eq rfl, Sub.refl _, trivial⟩ (withI_spec [] 0 s.stamp (Nat.zero_le _) (by simp)) <|
 .r 1 <| let J1 : Jn (Nat) := ⟨fun j1 => ⟨[(2, .ptr 2 b1 0), (4, .ptr 4 b2 0), (5, .val (.func (.func 60) #[] #[])), (7, .sl 1 false ([[aI s.stamp]])), (8, .ptr 8 j1 0)], [(2, .box b1 25 [.sl 2 false (s.l.map chnA), .sl 2 false (s.nexts.map cntA), aI s.stamp]), (4, .box b2 25 [aN, aN, aI 0]), (8, .box j1 25 [aN, .sl 2 true ((keepL Cnt.stamp s.stamp s.nexts).map cntA), aI s.stamp])]⟩, fun _ => True⟩
 .cut J1 (.pick [0, 1, 2, 3, 5, 6] <| .run 6 [b1 = b1, b1 = b1] ⟨rfl, rfl, trivial⟩ <|
 .fork <| .alt (.call (keptCount_spec s.nexts s.stamp (by omega)) <|
 .pick [7, 8, 9] <| .r 1 <| .new fun b3 => .run 1 [b3 = b3] ⟨rfl, trivial⟩ <|
 .join J1 b3 trivial ⟨[(2, .ptr 2 b1 0), (4, .ptr 4 b2 0), (5, .val (.func (.func 60) #[] #[])), (7, .sl 1 false ([[aI s.stamp]])), (8, .ptr 8 b3 0)], [(2, .box b1 25 [.sl 2 false (s.l.map chnA), .sl 2 false (s.nexts.map cntA), aI s.stamp]), (4, .box b2 25 [aN, aN, aI 0]), (8, .box b3 25 [aN, .sl 2 true ((keepL Cnt.stamp s.stamp s.nexts).map cntA), aI s.stamp])]⟩ ⟨Sub.refl _, Sub.refl _, Sub.refl _, Sub.refl _, Sub.refl _, trivial⟩ ⟨⟨_, rfl, SubB.refl _⟩, ⟨_, rfl, SubB.refl _⟩, ⟨_, rfl, SubB.refl _⟩, trivial⟩)
 <| .new fun b4 => .pick [4, 7, 9] <| .call (keptCount_spec s.nexts s.stamp (by omega)) <|
 .run 2 [b4 = b4] ⟨rfl, trivial⟩ <|
 .join J1 b4 trivial ⟨[(2, .ptr 2 b1 0), (4, .ptr 4 b2 0), (5, .val (.func (.func 60) #[] #[])), (7, .sl 1 false ([[aI s.stamp]])), (8, .ptr 8 b4 0)], [(2, .box b1 25 [.sl 2 false (s.l.map chnA), .sl 2 false (s.nexts.map cntA), aI s.stamp]), (4, .box b2 25 [aN, aN, aI 0]), (8, .box b4 25 [aN, .sl 2 true ((keepL Cnt.stamp s.stamp s.nexts).map cntA), aI s.stamp])]⟩ ⟨Sub.refl _, Sub.refl _, Sub.refl _, Sub.refl _, Sub.refl _, trivial⟩ ⟨⟨_, rfl, SubB.refl _⟩, ⟨_, rfl, SubB.refl _⟩, ⟨_, rfl, SubB.refl _⟩, trivial⟩)
 <| fun j1 _ => (fun (b5 : Nat) => .rowNilB 100 8 0 53 2 <| .run 3 [b1 = b1] ⟨rfl, trivial⟩ <|
 .val 32 (show (aI ((s.l.map chnA).length : Int) : AV) = aI (s.l.length : Int) from by rw [List.length_map]) <| .r 1 <| let L1 : Lp (Nat × Value) := ⟨fun a1 => ⟨[(4, .ptr 4 b2 0), (5, .val (.func (.func 60) #[] #[])), (7, .sl 1 false ([[aI s.stamp]])), (8, .ptr 8 b5 0), (31, .sl 2 false (s.l.map chnA)), (32, aI (s.l.length : Int)), (33, aI (a1.1 : Int))], [(4, .box b2 25 [aN, aN, aI 0]), (8, .box b5 25 [.rw 100 a1.2 ((sweepL s a1.1).length), .sl 2 true ((keepL Cnt.stamp s.stamp s.nexts).map cntA), aI s.stamp]), (100, .row a1.2 53 2 ((sweepL s a1.1).map chnT))]⟩, fun a1 => s.l.length - a1.1, fun a1 => a1.1 ≤ s.l.length⟩
 .loop L1 (0, .slice none 0 0) (show 0 ≤ s.l.length from Nat.zero_le _) ⟨[(4, .ptr 4 b2 0), (5, .val (.func (.func 60) #[] #[])), (7, .sl 1 false ([[aI s.stamp]])), (8, .ptr 8 b5 0), (31, .sl 2 false (s.l.map chnA)), (32, aI (s.l.length : Int)), (33, aI 0)], [(4, .box b2 25 [aN, aN, aI 0]), (8, .box b5 25 [.rw 100 (.slice none 0 0) 0, .sl 2 true ((keepL Cnt.stamp s.stamp s.nexts).map cntA), aI s.stamp]), (100, .row (.slice none 0 0) 53 2 ([]))]⟩ ⟨Sub.refl _, Sub.refl _, Sub.refl _, Sub.refl _, Sub.refl _, Sub.refl _, Sub.of_eq (congrArg aI (by first | omega | rfl)), trivial⟩ ⟨⟨_, rfl, SubB.refl _⟩, ⟨_, rfl, SubB.boxs ⟨Sub.of_eq (congrArg (AV.rw 100 (.slice none 0 0)) (by simp [sweepL])), Sub.refl _, Sub.refl _, trivial⟩⟩, ⟨_, rfl, SubB.of_eq (by simp [sweepL])⟩, trivial⟩ fun a1 ha1 =>
 (fun (k : Nat) (V : Value) (hH1 : k ≤ s.l.length) => .r 1 <| .br 34 (decide ((k : Int) < (s.l.length : Int))) (fun q1 => have p1 := decT q1; .idxM s.l chnA k (m := (k : Int)) rfl (by omega) fun x1 hx1 =>
 have okx1 := oks.2.2.2.1 x1 (List.mem_of_getElem? hx1); have blx1 := okx1.2.1; .r 1 <| .new fun b6 => .run 1 [b6 = b6] ⟨rfl, trivial⟩ <|
 .run 4 [b6 = b6] ⟨rfl, trivial⟩ <|
 .call (keptVer_spec x1.l s.stamp (by omega)) <|
 .r 1 <| let L2 : Lp (Nat) := ⟨fun a2 => ⟨[(4, .ptr 4 b2 0), (5, .val (.func (.func 60) #[] #[])), (7, .sl 1 false ([[aI s.stamp]])), (8, .ptr 8 b5 0), (31, .sl 2 false (s.l.map chnA)), (32, aI (s.l.length : Int)), (33, aI (k : Int)), (10, .ptr 10 b6 0), (11, .sl 7 true (((keepL Ver.stamp s.stamp x1.l).drop a2).map verA))], [(4, .box b2 25 [aN, aN, aI 0]), (8, .box b5 25 [.rw 100 V ((sweepL s k).length), .sl 2 true ((keepL Cnt.stamp s.stamp s.nexts).map cntA), aI s.stamp]), (10, .box b6 53 [aI x1.ino, .sl 7 false (x1.l.map verA)]), (100, .row V 53 2 ((sweepL s k).map chnT))]⟩, fun a2 => (keepL Ver.stamp s.stamp x1.l).length - a2, fun a2 => KeepM s.stamp x1 a2⟩
 .loop L2 0 (show KeepM s.stamp x1 0 from keepM0 _ _) ⟨[(4, .ptr 4 b2 0), (5, .val (.func (.func 60) #[] #[])), (7, .sl 1 false ([[aI s.stamp]])), (8, .ptr 8 b5 0), (31, .sl 2 false (s.l.map chnA)), (32, aI (s.l.length : Int)), (33, aI (k : Int)), (10, .ptr 10 b6 0), (11, .sl 7 true ((keepL Ver.stamp s.stamp x1.l).map verA))], [(4, .box b2 25 [aN, aN, aI 0]), (8, .box b5 25 [.rw 100 V ((sweepL s k).length), .sl 2 true ((keepL Cnt.stamp s.stamp s.nexts).map cntA), aI s.stamp]), (10, .box b6 53 [aI x1.ino, .sl 7 false (x1.l.map verA)]), (100, .row V 53 2 ((sweepL s k).map chnT))]⟩ ⟨Sub.refl _, Sub.refl _, Sub.refl _, Sub.refl _, Sub.refl _, Sub.refl _, Sub.refl _, Sub.refl _, Sub.of_eq (congrArg (AV.sl 7 true) (by rw [List.drop_zero])), trivial⟩ ⟨⟨_, rfl, SubB.refl _⟩, ⟨_, rfl, SubB.refl _⟩, ⟨_, rfl, SubB.refl _⟩, ⟨_, rfl, SubB.refl _⟩, trivial⟩ fun a2 ha2 =>
 (fun (m : Nat) (hH2 : KeepM s.stamp x1 m) => .r 2 <| .val 43 (show (aI ((((keepL Ver.stamp s.stamp x1.l).drop m).map verA).length : Int) : AV) = aI (((keepL Ver.stamp s.stamp x1.l).drop m).length : Int) from by rw [List.length_map]) <| .r 2 <| .br 45 (decide ((((keepL Ver.stamp s.stamp x1.l).drop m).length : Int) > 0)) (fun q2 => have p2 := decT q2; .r 1 <| .idxM ((keepL Ver.stamp s.stamp x1.l).drop m) verA 0 (m := 0) rfl (by omega) fun x2 hx2 =>
 .r 3 <| .br 50 (x2.gone) (fun q3 => have p3 := booT q3; .r 1 <| .slc 7 true (((keepL Ver.stamp s.stamp x1.l).drop m).map verA) (some 1) none none 1 ((((keepL Ver.stamp s.stamp x1.l).drop m).map verA).length) true (.inr rfl) (.inl ⟨rfl, rfl⟩) (.inl ⟨rfl, fun _ => ⟨rfl, rfl⟩⟩) (by first | omega | (rw [List.length_map]; omega) | (simp; done) | (simp; omega)) (by first | omega | (rw [List.length_map]; omega) | (simp; done) | (simp; omega)) <|
 .r 1 <| .back L2 m (m + 1) (show KeepM s.stamp x1 (m + 1) from (keepM_step hH2 hx2 q3)) (show (keepL Ver.stamp s.stamp x1.l).length - (m + 1) < (keepL Ver.stamp s.stamp x1.l).length - m from (by have := (keepM_step hH2 hx2 q3).1; omega)) ⟨[(4, .ptr 4 b2 0), (5, .val (.func (.func 60) #[] #[])), (7, .sl 1 false ([[aI s.stamp]])), (8, .ptr 8 b5 0), (31, .sl 2 false (s.l.map chnA)), (32, aI (s.l.length : Int)), (33, aI (k : Int)), (10, .ptr 10 b6 0), (11, .sl 7 true (((((keepL Ver.stamp s.stamp x1.l).drop m).map verA).take ((((keepL Ver.stamp s.stamp x1.l).drop m).map verA).length)).drop 1))], [(4, .box b2 25 [aN, aN, aI 0]), (8, .box b5 25 [.rw 100 V ((sweepL s k).length), .sl 2 true ((keepL Cnt.stamp s.stamp s.nexts).map cntA), aI s.stamp]), (10, .box b6 53 [aI x1.ino, .sl 7 false (x1.l.map verA)]), (100, .row V 53 2 ((sweepL s k).map chnT))]⟩ ⟨Sub.refl _, Sub.refl _, Sub.refl _, Sub.refl _, Sub.refl _, Sub.refl _, Sub.refl _, Sub.refl _, Sub.of_eq (congrArg (AV.sl 7 true) (by rw [take_all (by simp), ← List.map_drop, List.drop_drop])), trivial⟩ ⟨⟨_, rfl, SubB.refl _⟩, ⟨_, rfl, SubB.refl _⟩, ⟨_, rfl, SubB.refl _⟩, ⟨_, rfl, SubB.refl _⟩, trivial⟩)
 <| fun q3 => have p3 := booF q3; .r 2 <| .val 54 (show (aI ((((keepL Ver.stamp s.stamp x1.l).drop m).map verA).length : Int) : AV) = aI (((keepL Ver.stamp s.stamp x1.l).drop m).length : Int) from by rw [List.length_map]) <| .r 1 <| .is 55 q2 <| .run 7 [b5 = b5, b6 = b6] ⟨rfl, rfl, trivial⟩ <|
 .app 32 V ((sweepL s k).map chnT) ([[aI x1.ino, .sl 7 true (((keepL Ver.stamp s.stamp x1.l).drop m).map verA)]]) (by have := sweepL_le s k; simp only [List.length_map, List.length_cons, List.length_nil]; omega) (by have := sweepL_le s k; simp only [List.length_map, List.length_cons, List.length_nil]; omega) fun V1 =>
 .run 2 [b5 = b5] ⟨rfl, trivial⟩ <|
 .run 2 [rng .i64 ((k : Int) + 1)] ⟨rng64 (by omega) (by omega), trivial⟩ <|
 .back L1 (k, V) ((k + 1), V1) (show (k + 1) ≤ s.l.length from (by show _ ≤ _; omega)) (show s.l.length - (k + 1) < s.l.length - k from (by omega)) ⟨[(4, .ptr 4 b2 0), (5, .val (.func (.func 60) #[] #[])), (7, .sl 1 false ([[aI s.stamp]])), (8, .ptr 8 b5 0), (31, .sl 2 false (s.l.map chnA)), (32, aI (s.l.length : Int)), (33, aI ((k : Int) + 1))], [(4, .box b2 25 [aN, aN, aI 0]), (8, .box b5 25 [.rw 100 V1 (((sweepL s k).map chnT).length + ([[aI x1.ino, .sl 7 true (((keepL Ver.stamp s.stamp x1.l).drop m).map verA)]] : List (List AV)).length), .sl 2 true ((keepL Cnt.stamp s.stamp s.nexts).map cntA), aI s.stamp]), (100, .row V1 53 2 (((sweepL s k).map chnT) ++ ([[aI x1.ino, .sl 7 true (((keepL Ver.stamp s.stamp x1.l).drop m).map verA)]])))]⟩ ⟨Sub.refl _, Sub.refl _, Sub.refl _, Sub.refl _, Sub.refl _, Sub.refl _, Sub.of_eq (congrArg aI (by first | omega | rfl)), trivial⟩ ⟨⟨_, rfl, SubB.refl _⟩, ⟨_, rfl, SubB.boxs ⟨Sub.of_eq (congrArg (AV.rw 100 V1) (by rw [sweepL_yes hx1 (keepM_yes hH2 hx2 q3)]; simp)), Sub.refl _, Sub.refl _, trivial⟩⟩, ⟨_, rfl, SubB.of_eq (by rw [sweepL_yes hx1 (keepM_yes hH2 hx2 q3)]; simp [chnT])⟩, trivial⟩)
 <| fun q2 => have p2 := decF q2; .r 5 <| .r 2 <| .val 54 (show (aI ((((keepL Ver.stamp s.stamp x1.l).drop m).map verA).length : Int) : AV) = aI (((keepL Ver.stamp s.stamp x1.l).drop m).length : Int) from by rw [List.length_map]) <| .r 1 <| .is 55 q2 <| .run 2 [rng .i64 ((k : Int) + 1)] ⟨rng64 (by omega) (by omega), trivial⟩ <|
 .back L1 (k, V) ((k + 1), V) (show (k + 1) ≤ s.l.length from (by show _ ≤ _; omega)) (show s.l.length - (k + 1) < s.l.length - k from (by omega)) ⟨[(4, .ptr 4 b2 0), (5, .val (.func (.func 60) #[] #[])), (7, .sl 1 false ([[aI s.stamp]])), (8, .ptr 8 b5 0), (31, .sl 2 false (s.l.map chnA)), (32, aI (s.l.length : Int)), (33, aI ((k : Int) + 1))], [(4, .box b2 25 [aN, aN, aI 0]), (8, .box b5 25 [.rw 100 V ((sweepL s k).length), .sl 2 true ((keepL Cnt.stamp s.stamp s.nexts).map cntA), aI s.stamp]), (100, .row V 53 2 ((sweepL s k).map chnT))]⟩ ⟨Sub.refl _, Sub.refl _, Sub.refl _, Sub.refl _, Sub.refl _, Sub.refl _, Sub.of_eq (congrArg aI (by first | omega | rfl)), trivial⟩ ⟨⟨_, rfl, SubB.refl _⟩, ⟨_, rfl, SubB.boxs ⟨Sub.of_eq (congrArg (AV.rw 100 V) (by rw [sweepL_no hx1 (keepM_no hH2 (by omega))])), Sub.refl _, Sub.refl _, trivial⟩⟩, ⟨_, rfl, SubB.of_eq (by rw [sweepL_no hx1 (keepM_no hH2 (by omega))])⟩, trivial⟩) a2 ha2)
 <| fun q1 => have p1 := decF q1; .run 2 [b5 = b5, b2 = b2] ⟨rfl, rfl, trivial⟩ <|
 .frz 100 [4] [4] [V = V, (sweepL s k).length = ((sweepL s k).map chnT).length] ⟨rfl, (by first | rfl | (simp; done) | (simp; omega)), trivial⟩ <|
 .fin (x := .agg [.sl 2 false ((sweepL s k).map chnT), .sl 2 true ((keepL Cnt.stamp s.stamp s.nexts).map cntA), aI s.stamp]) (r := .agg (stoA (sweepD s))) [b2 = b2] ⟨rfl, trivial⟩ (by
    have e : sweepL s k = (sweepD s).l := (by show sweepL s k = s.l.filterMap (lastC s.stamp); unfold sweepL; rw [take_all (by omega)])
    rw [e]
    exact Sub.aggs ⟨chnT_sub, (Sub.loose _ _ _).trans (Sub.of_eq (by rw [← keepN_eq]; rfl)), Sub.refl _, trivial⟩)) a1.1 a1.2 ha1) j1) Try.func25 rfl (by kernel_rfl) (by kernel_rfl)
end Go.Proofs.Ytibcmgmlklehdaa
