/- A new store; the examples. -/
import Derived.Test.YtibcmgmlklehdaaStoY
set_option linter.unusedVariables false
set_option linter.unusedSimpArgs false
namespace Go.Proofs.Ytibcmgmlklehdaa
open Go Go.RowKit Copyhold
def rootN : Nod := ⟨1, 2, 0, [], []⟩
def newF : Fsy := ⟨[rootN], 2⟩
def newS : Sto := ⟨[⟨1, [⟨1, false, rootN⟩]⟩], [⟨1, 2⟩], 1⟩
theorem sl1_of {k : Nat} {t : Bool} {e e' : List AV} (h : SubAll e e') : Sub (.sl k t [e]) (.sl k false [e']) :=
  (Sub.sl2 (t := t) (xs := [e]) (ys := [e']) rfl (fun i a b ha hb => by
    match i, ha, hb with
    | 0, ha, hb => simp at ha hb; rw [← ha, ← hb]; exact h
    | i + 1, ha, _ => simp at ha)).trans (Sub.loose _ _ _)
set_option maxRecDepth 100000 in
set_option maxHeartbeats 4000000 in
theorem tnew_spec  : FSpec Try.prog 59 [] (.agg (fsyA newF)) := by
  exact spec_vc (F := Try.f59) 400 (
 .new fun b1 => .run 4 [b1 = b1] ⟨rfl, trivial⟩ <|
 .fin (x := .agg [.sl 5 true ([[aI 1, aI 2, aI 0, aS ([]), aN]]), aI 2]) (r := .agg (fsyA newF)) [b1 = b1] ⟨rfl, trivial⟩ (by exact Sub.aggs ⟨sl1_of ⟨Sub.refl _, Sub.refl _, Sub.refl _, Sub.refl _, Sub.nil _ _, trivial⟩, Sub.refl _, trivial⟩)) Try.func59 rfl (by kernel_rfl) (by kernel_rfl)
def newC (x : Nod) : List AV := [aI x.ino, .sl 7 true [[aI 1, aB false, aI x.ino, aI x.kind, aI x.links, aS x.text, .sl 2 false (x.l.map entA)]]]
theorem newS_l : Sub (.sl 2 false ([rootN].map newC)) (.sl 2 false (newS.l.map chnA)) := sl1_of ⟨Sub.refl _, sl1_of ⟨Sub.refl _, Sub.refl _, Sub.refl _, Sub.refl _, Sub.refl _, Sub.refl _, Sub.refl _, trivial⟩, trivial⟩
theorem rootN_ok : OkN rootN := ⟨⟨by decide, by decide⟩, ⟨by decide, by decide⟩, ⟨by decide, by decide⟩, by show (0 : Nat) ≤ _; omega, by show (0 : Nat) ≤ _; omega, fun e h => by cases h⟩
theorem newS_ok : OkS newS := ⟨⟨by decide, by decide⟩, by show (1 : Nat) ≤ _; omega, by show (1 : Nat) ≤ _; omega, fun c h => by
    obtain rfl := List.mem_singleton.1 h
    exact ⟨⟨by decide, by decide⟩, by show (1 : Nat) ≤ _; omega, fun v hv => by obtain rfl := List.mem_singleton.1 hv; exact ⟨⟨by decide, by decide⟩, rootN_ok⟩⟩,
  fun c h => by obtain rfl := List.mem_singleton.1 h; exact ⟨⟨by decide, by decide⟩, ⟨by decide, by decide⟩⟩⟩
theorem allQ_one {α : Type} {Q : Nat → α → Prop} {x : α} (h : Q 0 x) : AllQ Q [x] := fun i e he => by
  match i, he with
  | 0, he => simp at he; subst he; exact h
  | i + 1, he => simp at he
theorem newS_right : storeP newS := by
  refine ⟨by decide, ⟨by decide, allQ_one ⟨by decide, by decide, fun d h => by omega⟩⟩, allQ_one (by show (1 : Int) ≤ 2; decide), allQ_one ⟨⟨by decide, ⟨by decide, allQ_one ⟨by decide, by decide, fun d h => by omega⟩⟩, allQ_one ⟨fun h => (by cases h), fun _ => ⟨?_, rfl⟩⟩⟩, fun d h => by omega⟩⟩
  exact ⟨by decide, by decide, by decide, .inl ⟨rfl, rfl, rowP_nil⟩⟩
set_option maxRecDepth 100000 in
set_option maxHeartbeats 4000000 in
theorem snew_spec  : FSpec Try.prog 27 [] (.agg (stoA newS)) := by
  have hnl : newF.l.length = 1 := rfl
  exact spec_vc (F := Try.f27) 400 (
 .new fun b1 => .call (tnew_spec) <|
 .new fun b2 => .run 1 [b2 = b2] ⟨rfl, trivial⟩ <|
 .run 5 [b2 = b2] ⟨rfl, trivial⟩ <|
 .new fun b3 => .run 1 [b3 = b3] ⟨rfl, trivial⟩ <|
 .rowNilB 100 2 0 53 2 <| .run 3 [b2 = b2] ⟨rfl, trivial⟩ <|
 .val 13 (show (aI ((newF.l.map nodA).length : Int) : AV) = aI (newF.l.length : Int) from by rw [List.length_map]) <| .r 1 <| let L1 : Lp (Nat × Value) := ⟨fun a1 => ⟨[(0, .ptr 0 b1 0), (2, .ptr 2 b3 0), (12, .sl 5 false (newF.l.map nodA)), (13, aI (newF.l.length : Int)), (14, aI (a1.1 : Int))], [(0, .box b1 25 [aN, aN, aI 0]), (2, .box b3 25 [.rw 100 a1.2 (((newF.l.take a1.1).map newC).length), .sl 2 true ([[aI 1, aI newF.next]]), aI 1]), (100, .row a1.2 53 2 ((newF.l.take a1.1).map newC))]⟩, fun a1 => newF.l.length - a1.1, fun a1 => a1.1 ≤ newF.l.length⟩
 .loop L1 (0, .slice none 0 0) (show 0 ≤ newF.l.length from Nat.zero_le _) ⟨[(0, .ptr 0 b1 0), (2, .ptr 2 b3 0), (12, .sl 5 false (newF.l.map nodA)), (13, aI (newF.l.length : Int)), (14, aI 0)], [(0, .box b1 25 [aN, aN, aI 0]), (2, .box b3 25 [.rw 100 (.slice none 0 0) 0, .sl 2 true ([[aI 1, aI newF.next]]), aI 1]), (100, .row (.slice none 0 0) 53 2 ([]))]⟩ ⟨Sub.refl _, Sub.refl _, Sub.refl _, Sub.refl _, Sub.of_eq (congrArg aI (by first | omega | rfl)), trivial⟩ ⟨⟨_, rfl, SubB.refl _⟩, ⟨_, rfl, SubB.boxs ⟨Sub.refl _, Sub.refl _, Sub.refl _, trivial⟩⟩, ⟨_, rfl, SubB.refl _⟩, trivial⟩ fun a1 ha1 =>
 (fun (k : Nat) (V : Value) (hH1 : k ≤ newF.l.length) => .r 1 <| .br 15 (decide ((k : Int) < (newF.l.length : Int))) (fun q1 => have p1 := decT q1; .idxM newF.l nodA k (m := (k : Int)) rfl (by omega) fun x1 hx1 =>
 .r 1 <| .new fun b4 => .run 1 [b4 = b4] ⟨rfl, trivial⟩ <|
 .run 9 [b3 = b3, b4 = b4, b4 = b4] ⟨rfl, rfl, rfl, trivial⟩ <|
 .app 32 V ((newF.l.take k).map newC) ([[aI x1.ino, .sl 7 true ([[aI 1, aB false, aI x1.ino, aI x1.kind, aI x1.links, aS x1.text, .sl 2 false (x1.l.map entA)]])]]) (by simp; try omega) (by simp; try omega) fun V1 =>
 .run 2 [b3 = b3] ⟨rfl, trivial⟩ <|
 .run 2 [rng .i64 ((k : Int) + 1)] ⟨rng64 (by omega) (by omega), trivial⟩ <|
 .back L1 (k, V) ((k + 1), V1) (show (k + 1) ≤ newF.l.length from (by show _ ≤ _; omega)) (show newF.l.length - (k + 1) < newF.l.length - k from (by omega)) ⟨[(0, .ptr 0 b1 0), (2, .ptr 2 b3 0), (12, .sl 5 false (newF.l.map nodA)), (13, aI (newF.l.length : Int)), (14, aI ((k : Int) + 1))], [(0, .box b1 25 [aN, aN, aI 0]), (2, .box b3 25 [.rw 100 V1 (((newF.l.take k).map newC).length + ([[aI x1.ino, .sl 7 true ([[aI 1, aB false, aI x1.ino, aI x1.kind, aI x1.links, aS x1.text, .sl 2 false (x1.l.map entA)]])]] : List (List AV)).length), .sl 2 true ([[aI 1, aI newF.next]]), aI 1]), (100, .row V1 53 2 (((newF.l.take k).map newC) ++ ([[aI x1.ino, .sl 7 true ([[aI 1, aB false, aI x1.ino, aI x1.kind, aI x1.links, aS x1.text, .sl 2 false (x1.l.map entA)]])]])))]⟩ ⟨Sub.refl _, Sub.refl _, Sub.refl _, Sub.refl _, Sub.of_eq (congrArg aI (by first | omega | rfl)), trivial⟩ ⟨⟨_, rfl, SubB.refl _⟩, ⟨_, rfl, SubB.boxs ⟨Sub.of_eq (congrArg (AV.rw 100 V1) (by rw [take_step hx1]; simp)), Sub.refl _, Sub.refl _, trivial⟩⟩, ⟨_, rfl, SubB.of_eq (by rw [take_step hx1]; simp [newC])⟩, trivial⟩)
 <| fun q1 => have p1 := decF q1; .run 2 [b3 = b3, b1 = b1] ⟨rfl, rfl, trivial⟩ <|
 .frz 100 [0] [0] [V = V, ((newF.l.take k).map newC).length = ((newF.l.take k).map newC).length] ⟨rfl, (by first | rfl | (simp; done) | (simp; omega)), trivial⟩ <|
 .fin (x := .agg [.sl 2 false ((newF.l.take k).map newC), .sl 2 true ([[aI 1, aI newF.next]]), aI 1]) (r := .agg (stoA newS)) [b1 = b1] ⟨rfl, trivial⟩ (by exact Sub.aggs ⟨(Sub.of_eq (by rw [take_all (by omega)]; rfl)).trans newS_l, sl1_of ⟨Sub.refl _, Sub.refl _, trivial⟩, Sub.refl _, trivial⟩)) a1.1 a1.2 ha1) Try.func27 rfl (by kernel_rfl) (by kernel_rfl)
theorem atD_mem {α : Type} {f : α → Int} {st : Int} {l : List α} {x : α} (h : atD f st l = some x) : x ∈ l := by
  unfold atD at h
  split at h
  · cases h
  · exact List.mem_of_getElem? h
theorem viewC_ok {st : Int} {c : Chn} {n : Nod} (ok : OkC c) (h : viewC st c = some n) : OkN n := by
  unfold viewC at h
  split at h
  · rename_i v hv
    split at h
    · cases h
    · obtain rfl := Option.some.inj h
      exact (ok.2.2 v (atD_mem hv)).2
  · cases h
theorem view_ok {s : Sto} (ok : OkS s) (st : Int) : OkF (viewD s st) := by
  refine ⟨?_, ?_, fun n hn => ?_⟩
  · show I64 (nextD s st)
    unfold nextD
    split
    · rename_i c hc
      exact (ok.2.2.2.2 c (atD_mem hc)).2
    · exact ⟨by decide, by decide⟩
  · have := List.length_filterMap_le (viewC st) s.l
    have := ok.2.1
    show (s.l.filterMap (viewC st)).length ≤ _
    omega
  · obtain ⟨c, hc, hv⟩ := List.mem_filterMap.1 hn
    exact viewC_ok (ok.2.2.2.1 c hc) hv
theorem since_le (s : Sto) (st : Int) : (sinceD s st).length ≤ s.l.length + 1 := by
  unfold sinceD
  split
  · have := laterL_le s st s.l.length
    simp
    omega
  · simp
theorem few_many {s : Sto} (h : few s) : s.l.length ≤ 200 ∧ s.nexts.length ≤ 200 ∧ manyD s ≤ 200 := by
  have h1 := h.1
  have h2 : (s.l.map (fun c => c.l.length)).sum ≤ (s.l.map wC).sum := by
    clear h h1
    induction s.l with
    | nil => simp
    | cons c r ih => simp only [List.map_cons, List.sum_cons, wC]; omega
  unfold manyD
  omega
set_option maxRecDepth 100000 in
set_option maxHeartbeats 4000000 in
theorem shown_spec  : FSpec Try.prog 8 [] (aB true) := by
  exact spec_vc (F := Try.f8) 400 (
 .r 1 <| .call (snew_spec) <|
 .new fun b1 => .run 1 [b1 = b1] ⟨rfl, trivial⟩ <|
 .run 1 [b1 = b1] ⟨rfl, trivial⟩ <|
 .call (view_spec newS 1 newS_ok (by decide)) <|
 .new fun b2 => .run 1 [b2 = b2] ⟨rfl, trivial⟩ <|
 .run 1 [b1 = b1] ⟨rfl, trivial⟩ <|
 .call (view_spec newS 0 newS_ok (by decide)) <|
 .new fun b3 => .run 1 [b3 = b3] ⟨rfl, trivial⟩ <|
 .run 3 [b2 = b2] ⟨rfl, trivial⟩ <|
 .val 11 (show (aI (((viewD newS 1).l.map nodA).length : Int) : AV) = aI (((viewD newS 1).l).length : Int) from by rw [List.length_map]) <| .r 2 <| .is 13 (show ((((viewD newS 1).l).length : Int) == 1) = true from (by rfl)) <| .run 5 [b2 = b2] ⟨rfl, trivial⟩ <|
 .is 18 (show (((viewD newS 1).next) == 2) = true from (by rfl)) <| .run 3 [b3 = b3] ⟨rfl, trivial⟩ <|
 .val 21 (show (aI (((viewD newS 0).l.map nodA).length : Int) : AV) = aI (((viewD newS 0).l).length : Int) from by rw [List.length_map]) <| .r 3 <| .is 24 (show ((((viewD newS 0).l).length : Int) == 0) = true from (by rfl)) <| .run 5 [b3 = b3] ⟨rfl, trivial⟩ <|
 .is 29 (show (((viewD newS 0).next) == 1) = true from (by rfl)) <| .run 1 [b1 = b1] ⟨rfl, trivial⟩ <|
 .call (right_spec newS newS_ok) <|
 .r 2 <| .is 33 (show (dP (storeP newS)) = true from (dP_true.2 newS_right)) <| .run 1 [b1 = b1] ⟨rfl, trivial⟩ <|
 .call (many_spec newS (by have := newS_ok.2.1; omega) (by decide)) <|
 .r 3 <| .fin (x := aB ((manyD newS : Int) == 1)) (r := aB true) [] trivial (by exact Sub.of_eq (by rfl))) Try.func8 rfl (by kernel_rfl) (by kernel_rfl)
end Go.Proofs.Ytibcmgmlklehdaa
