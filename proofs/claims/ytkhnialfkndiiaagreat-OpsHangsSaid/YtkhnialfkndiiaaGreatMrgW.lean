/- What a call makes of a right file system. ref06.Enter, Leave, Names over data. ref10.entered, left, less over data. ref10.Add, Give, Take over data. ref10.Take over data. ref08.Names over data, under a wider bound. -/
import Derived.Test.YtkhnialfkndiiaaGreatMrgU
import Derived.Test.YtkhnialfkndiiaaGreatOpsD11
import Derived.Test.YtkhnialfkndiiaaGreatMrgT
import Derived.Test.YtkhnialfkndiiaaGreatMrgO
set_option maxRecDepth 100000
set_option maxHeartbeats 8000000
set_option linter.unusedVariables false
set_option linter.unusedSimpArgs false
namespace Go.Proofs.YtkhnialfkndiiaaGreat
open Go Go.RowKit Copyhold
theorem of_at {f : Fsy} {i k : Int} (h : ofE f i k = 0) : atF f i = some (findN f i) ∧ (findN f i).kind = k := by
  unfold ofE at h
  split at h
  · rename_i hb
    split at h
    · rename_i hk; exact ⟨at_some hb, hk⟩
    · cases h
  · cases h
theorem kept_text {f : Fsy} {i : Int} {t : Txt} (okf : OkF f) (T : TreeP f) (h : ofE f i 1 = 0) (ht : t.length ≤ 4096) : Kept f (putF f (withT (findN f i) t)) := by
  obtain ⟨hn, hk⟩ := of_at h
  obtain ⟨n1, n2, n3⟩ := rows_at T.rows hn
  have okn := okf.2.2 _ (at_mem hn)
  exact kept_put okf T hn n3 rfl rfl rfl ⟨n1.1, n1.2.1, n1.2.2.1, .inr ⟨.inl hk, ht, (show (findN f i).l = [] from file_none n1 (by rw [hk]; decide))⟩⟩ ⟨okn.1, okn.2.1, okn.2.2.1, by show t.length ≤ _; omega, okn.2.2.2.2⟩
theorem kept_addO {f : Fsy} {c : Cal} {n : Nod} (okf : OkF f) (okc : OkCal c) (T : TreeP f) (hx : f.next < 4611686018427387904) (okn : OkN n) : Kept f (addO f c n).1 := by
  unfold addO
  show Kept f (if addErr f c.ino c.name n = 0 then _ else f)
  split
  · rename_i h; exact kept_add okf T okn okc.name hx h
  · exact Kept.self okf T
theorem kept_deed {f : Fsy} {c : Cal} (okf : OkF f) (okc : OkCal c) (T : TreeP f) (hx : f.next < 4611686018427387904) (he : (deedF f c).2.e = 0) : Kept f (deedF f c).1 := by
  have S := Kept.self okf T
  rcases (show c.kind = 1 ∨ c.kind = 2 ∨ c.kind = 3 ∨ c.kind = 4 ∨ c.kind = 5 ∨ c.kind = 6 ∨ c.kind = 7 ∨ c.kind = 8 ∨ c.kind = 9 ∨ c.kind = 10 ∨ c.kind = 11 ∨ c.kind = 12 ∨ c.kind = 13 ∨ c.kind = 14 ∨ c.kind = 15 ∨ (c.kind < 1 ∨ c.kind > 15) from by omega) with h | h | h | h | h | h | h | h | h | h | h | h | h | h | h | h
  · rw [deed_1 h] at he ⊢
    exact S
  · rw [deed_2 h] at he ⊢
    unfold statD; split <;> exact S
  · rw [deed_3 h] at he ⊢
    unfold readO; split <;> exact S
  · rw [deed_4 h] at he ⊢
    unfold writeO at he ⊢
    split
    · rename_i hof
      rw [if_pos hof] at he
      refine kept_text okf T hof ?_
      have he2 : (writeD (findN f c.ino).text c.at_ c.text).2 = 0 := he
      unfold writeD at he2 ⊢
      split
      · rename_i hw
        have hz := refusedD_zero hw
        have htl := txt_len T.rows c.ino
        show (if c.text = [] then (findN f c.ino).text else putD (findN f c.ino).text c.at_.toNat c.text).length ≤ 4096
        split
        · exact htl
        · rw [putD_length]; omega
      · exact txt_len T.rows c.ino
    · exact S
  · rw [deed_5 h] at he ⊢
    unfold cutO
    split
    · rename_i hof
      refine kept_text okf T hof ?_
      unfold cutD
      split
      · rename_i hw
        have hz := refusedD_zero hw
        show (fillD (findN f c.ino).text c.many.toNat).length ≤ 4096
        rw [fillD_length]; omega
      · exact txt_len T.rows c.ino
    · exact S
  · rw [deed_6 h] at he ⊢
    exact kept_addO okf okc T hx kfile_ok
  · rw [deed_7 h] at he ⊢
    exact kept_addO okf okc T hx kdir_ok
  · rw [deed_8 h] at he ⊢
    unfold symO
    split
    · exact S
    · exact kept_addO okf okc T hx (klink_ok okc.text)
  · rw [deed_9 h] at he ⊢
    unfold takeO at he ⊢
    split
    · rename_i h0
      split
      · exact S
      · rename_i h1
        rw [if_pos h0, if_neg h1] at he
        exact kept_take okf T he
    · exact S
  · rw [deed_10 h] at he ⊢
    unfold takeO at he ⊢
    split
    · rename_i h0
      split
      · exact S
      · rename_i h1
        rw [if_pos h0, if_neg h1] at he
        exact kept_take okf T he
    · exact S
  · rw [deed_11 h] at he ⊢
    unfold linkO at he ⊢
    exact kept_give okf T okc.name he
  · rw [deed_12 h] at he ⊢
    unfold renO at he ⊢
    exact kept_mov okf T okc.name2 he
  · rw [deed_13 h] at he ⊢
    exact S
  · rw [deed_14 h] at he ⊢
    exact S
  · rw [deed_15 h] at he ⊢
    exact S
  · rw [deed_no h]; exact S
theorem kept_do {f : Fsy} {c : Cal} (okf : OkF f) (okc : OkCal c) (T : TreeP f) (hx : f.next < 4611686018427387904) : Kept f (doF f c).1 := by
  unfold doF
  split
  · rename_i h; exact kept_deed okf okc T hx h
  · exact Kept.self okf T
end Go.Proofs.YtkhnialfkndiiaaGreat

set_option linter.unusedVariables false
set_option linter.unusedSimpArgs false
namespace Go.Proofs.YtkhnialfkndiiaaGreat
open Go Go.RowKit Copyhold
open Copyhold.Name (Srt insE delE getE isAt)
theorem less_posN {s : Txt} : ∀ {l : List NEnt}, Srt l → ∀ (k : Nat) (x : NEnt), l[k]? = some x → (x.1 < s ↔ k < Name.pos l s)
  | a :: r, h, k, x, hx => by
    by_cases ha : a.1 < s
    · rw [Name.pos_lt ha]
      cases k with
      | zero =>
        simp at hx
        subst hx
        exact ⟨fun _ => by omega, fun _ => ha⟩
      | succ k =>
        have := less_posN (s := s) (Name.Srt.tail h) k x (by simpa using hx)
        rw [this]
        omega
    · have h0 := Name.pos_ge h ha
      rw [h0]
      refine ⟨fun hlt => ?_, fun h => absurd h (Nat.not_lt_zero _)⟩
      have hc : (a :: r).countP (fun y => decide (y.1 < s)) = 0 := h0
      have := List.countP_eq_zero.1 hc x (List.mem_of_getElem? hx)
      simp [hlt] at this
theorem less_posE {l : List Ent} {s : Txt} {k : Nat} {x : Ent} (h : Srt (lI l)) (hx : l[k]? = some x) : Op.bytesLess x.name s = true ↔ k < posI l s := by
  rw [less_eq, decide_eq_true_iff]
  exact less_posN h k (x.name, x.ino) (by unfold lI; rw [List.getElem?_map, hx]; rfl)
theorem checkE_10 {s : Txt} (h : ¬ checkE s = 0) : checkE s = 10 := by
  unfold checkE at h ⊢
  split
  · rename_i h1; rw [if_pos h1] at h; exact absurd rfl h
  · rfl
theorem renter_spec (l : List Ent) (s : Txt) (n : Int) (hl : l.length ≤ 256) (hr : Name.Srt (lI l)) (hs : s.length ≤ 1000000) : FSpec Tryz.prog 107 [.sl 2 false (l.map entA), aS s, aI n] (.tup [.sl 2 false ((entL l s n).map entA), aI (entE l s n)]) := by
  exact spec_vc (F := Tryz.f107) 400 (
 .r 2 <| .r 1 <| .call (rcheck_spec s (by omega)) <|
 .r 1 <| .r 2 <| .call (rnfind_spec l s (by omega)) <|
 .r 5 <| .r 2 <| .br 22 ((checkE s) != 0) (fun q1 => have p1 := bneT q1; .r 4 <| .fin (x := .tup [.sl 2 false (l.map entA), aI (checkE s)]) (r := .tup [.sl 2 false ((entL l s n).map entA), aI (entE l s n)]) [] trivial (by
    have e : entE l s n = checkE s := by
      unfold entE
      rw [if_pos q1]
      exact (checkE_10 (bneT q1)).symm
    have e2 : entL l s n = l := if_neg (by rw [e]; exact bneT q1)
    rw [e2, e]
    exact Sub.tups ⟨by first | exact Sub.refl _ | exact Sub.loose _ _ _, Sub.refl _, trivial⟩))
 <| fun q1 => have p1 := bneF q1; .r 2 <| .br 26 (decide (n < 1)) (fun q2 => have p2 := decT q2; .r 3 <| .fin (x := .tup [.sl 2 false (l.map entA), aI 1]) (r := .tup [.sl 2 false ((entL l s n).map entA), aI (entE l s n)]) [] trivial (by
    have e : entE l s n = 1 := by
      unfold entE
      rw [if_neg (by rw [q1]; decide)]
      rw [if_pos (by omega)]
    have e2 : entL l s n = l := if_neg (by rw [e]; decide)
    rw [e2, e]
    exact Sub.tups ⟨by first | exact Sub.refl _ | exact Sub.loose _ _ _, Sub.refl _, trivial⟩))
 <| fun q2 => have p2 := decF q2; .r 1 <| .br 28 (isB l s) (fun q3 => have p3 := booT q3; .r 3 <| .fin (x := .tup [.sl 2 false (l.map entA), aI 7]) (r := .tup [.sl 2 false ((entL l s n).map entA), aI (entE l s n)]) [] trivial (by
    have e : entE l s n = 7 := by
      unfold entE
      rw [if_neg (by rw [q1]; decide)]
      rw [if_neg (by omega)]
      rw [if_pos q3]
    have e2 : entL l s n = l := if_neg (by rw [e]; decide)
    rw [e2, e]
    exact Sub.tups ⟨by first | exact Sub.refl _ | exact Sub.loose _ _ _, Sub.refl _, trivial⟩))
 <| fun q3 => have p3 := booF q3; .r 2 <| .val 31 (show (aI ((l.map entA).length : Int) : AV) = aI (l.length : Int) from by rw [List.length_map]) <| .r 1 <| .br 32 (decide ((l.length : Int) ≥ 256)) (fun q4 => have p4 := decT q4; .r 3 <| .fin (x := .tup [.sl 2 false (l.map entA), aI 12]) (r := .tup [.sl 2 false ((entL l s n).map entA), aI (entE l s n)]) [] trivial (by
    have e : entE l s n = 12 := by
      unfold entE
      rw [if_neg (by rw [q1]; decide)]
      rw [if_neg (by omega)]
      rw [if_neg (by rw [q3]; decide)]
      rw [if_pos (by omega)]
    have e2 : entL l s n = l := if_neg (by rw [e]; decide)
    rw [e2, e]
    exact Sub.tups ⟨by first | exact Sub.refl _ | exact Sub.loose _ _ _, Sub.refl _, trivial⟩))
 <| fun q4 => have p4 := decF q4; .r 1 <| .rowNil 11 11 101 2 <| .r 1 <| let L1 : Lp (Nat × Value) := ⟨fun a1 => ⟨[(0, .sl 2 false (l.map entA)), (1, aS s), (2, aI n), (12, aI (a1.1 : Int)), (11, .rw 11 a1.2 ((l.take a1.1).length))], [(11, .row a1.2 101 2 ((l.take a1.1).map entA))]⟩, fun a1 => l.length - a1.1, fun a1 => a1.1 ≤ l.length ∧ a1.1 ≤ posI l s⟩
 .loop L1 (0, .slice none 0 0) (show 0 ≤ l.length ∧ 0 ≤ posI l s from ⟨Nat.zero_le _, Nat.zero_le _⟩) ⟨[(0, .sl 2 false (l.map entA)), (1, aS s), (2, aI n), (12, aI 0), (11, .rw 11 (.slice none 0 0) 0)], [(11, .row (.slice none 0 0) 101 2 ([]))]⟩ ⟨Sub.refl _, Sub.refl _, Sub.refl _, Sub.of_eq (congrArg aI (by first | omega | rfl)), Sub.of_eq (congrArg (AV.rw 11 (.slice none 0 0)) (by simp)), trivial⟩ ⟨⟨_, rfl, SubB.of_eq (by simp)⟩, trivial⟩ fun a1 ha1 =>
 (fun (k : Nat) (V : Value) (hH1 : k ≤ l.length ∧ k ≤ posI l s) => .r 3 <| .val 36 (show (aI ((l.map entA).length : Int) : AV) = aI (l.length : Int) from by rw [List.length_map]) <| .r 2 <| .br 38 (decide ((k : Int) < (l.length : Int))) (fun q5 => have p5 := decT q5; .r 2 <| .idxM l entA k (m := (k : Int)) rfl (by omega) fun x1 hx1 =>
 .r 5 <| .br 46 (Op.bytesLess x1.name s) (fun q6 => have p6 := booT q6; .r 3 <| .idx k (m := (k : Int)) (xs := l.map entA) (e := entA x1) rfl (map_some hx1) <|
 .r 2 <| .app 24 V ((l.take k).map entA) ([[aS x1.name, aI x1.ino]]) (by have hq := posI_le l s; simp only [List.length_map, List.length_cons, List.length_nil, List.length_take, List.length_drop, List.length_append]; omega) (by have hq := posI_le l s; simp only [List.length_map, List.length_cons, List.length_nil, List.length_take, List.length_drop, List.length_append]; omega) fun V1 =>
 .r 1 <| .run 3 [rng .i64 ((k : Int) + 1)] ⟨rng64 (by omega) (by omega), trivial⟩ <|
 .back L1 (k, V) ((k + 1), V1) (show (k + 1) ≤ l.length ∧ (k + 1) ≤ posI l s from (by refine ⟨by omega, ?_⟩; have := (less_posE hr hx1).1 q6; omega)) (show l.length - (k + 1) < l.length - k from (by omega)) ⟨[(0, .sl 2 false (l.map entA)), (1, aS s), (2, aI n), (12, aI ((k : Int) + 1)), (11, .rw 11 V1 (((l.take k).map entA).length + ([[aS x1.name, aI x1.ino]] : List (List AV)).length))], [(11, .row V1 101 2 (((l.take k).map entA) ++ ([[aS x1.name, aI x1.ino]])))]⟩ ⟨Sub.refl _, Sub.refl _, Sub.refl _, Sub.of_eq (congrArg aI (by first | omega | rfl)), Sub.of_eq (congrArg (AV.rw 11 V1) (by rw [take_step hx1]; simp)), trivial⟩ ⟨⟨_, rfl, SubB.of_eq (by rw [take_step hx1]; simp [entA])⟩, trivial⟩)
 <| fun q6 => have p6 := booF q6; .r 5 <| .app 24 V ((l.take k).map entA) ([[aS s, aI n]]) (by have hq := posI_le l s; simp only [List.length_map, List.length_cons, List.length_nil, List.length_take, List.length_drop, List.length_append]; omega) (by have hq := posI_le l s; simp only [List.length_map, List.length_cons, List.length_nil, List.length_take, List.length_drop, List.length_append]; omega) fun V2 =>
 .r 1 <| .r 3 <| .slc 2 false (l.map entA) (some (k : Int)) none none k ((l.map entA).length) false (.inr rfl) (.inl ⟨rfl, rfl⟩) (.inl ⟨rfl, fun h => by cases h⟩) (by first | omega | (rw [List.length_map]; omega)) (by first | omega | (rw [List.length_map]; omega)) <|
 .app 24 V2 (((l.take k).map entA) ++ ([[aS s, aI n]])) (((l.map entA).take ((l.map entA).length)).drop k) (by have hq := posI_le l s; simp only [List.length_map, List.length_cons, List.length_nil, List.length_take, List.length_drop, List.length_append]; omega) (by have hq := posI_le l s; simp only [List.length_map, List.length_cons, List.length_nil, List.length_take, List.length_drop, List.length_append]; omega) fun V3 =>
 .r 2 <| .frz 11 [6, 7] [] [V3 = V3, (((l.take k).map entA) ++ ([[aS s, aI n]])).length + (((l.map entA).take ((l.map entA).length)).drop k).length = ((((l.take k).map entA) ++ ([[aS s, aI n]])) ++ (((l.map entA).take ((l.map entA).length)).drop k)).length] ⟨rfl, (by first | rfl | (simp; done) | (simp; omega)), trivial⟩ <|
 .fin (x := .tup [.sl 2 false ((((l.take k).map entA) ++ ([[aS s, aI n]])) ++ (((l.map entA).take ((l.map entA).length)).drop k)), aI 0]) (r := .tup [.sl 2 false ((entL l s n).map entA), aI (entE l s n)]) [] trivial (by
    have e : entE l s n = 0 := by
      unfold entE
      rw [if_neg (by rw [q1]; decide)]
      rw [if_neg (by omega)]
      rw [if_neg (by rw [q3]; decide)]
      rw [if_neg (by omega)]
    have e2 : entL l s n = l.take (posI l s) ++ ⟨s, n⟩ :: l.drop (posI l s) := if_pos e
    have hk : k = posI l s := by
      have hq := posI_le l s
      by_cases h : k < posI l s
      · have := (less_posE hr hx1).2 h; simp_all
      · omega
    rw [e, e2, ← hk]
    first | exact Sub.tups ⟨Sub.of_eq (congrArg (AV.sl 2 false) (by simp [entA, List.map_take, List.map_drop, take_all])), Sub.refl _, trivial⟩ | exact Sub.tups ⟨(Sub.of_eq (congrArg (AV.sl 2 true) (by simp [entA, List.map_take, List.map_drop, take_all]))).trans (Sub.loose _ _ _), Sub.refl _, trivial⟩))
 <| fun q5 => have p5 := decF q5; .r 8 <| .r 5 <| .app 24 V ((l.take k).map entA) ([[aS s, aI n]]) (by have hq := posI_le l s; simp only [List.length_map, List.length_cons, List.length_nil, List.length_take, List.length_drop, List.length_append]; omega) (by have hq := posI_le l s; simp only [List.length_map, List.length_cons, List.length_nil, List.length_take, List.length_drop, List.length_append]; omega) fun V4 =>
 .r 1 <| .r 3 <| .slc 2 false (l.map entA) (some (k : Int)) none none k ((l.map entA).length) false (.inr rfl) (.inl ⟨rfl, rfl⟩) (.inl ⟨rfl, fun h => by cases h⟩) (by first | omega | (rw [List.length_map]; omega)) (by first | omega | (rw [List.length_map]; omega)) <|
 .app 24 V4 (((l.take k).map entA) ++ ([[aS s, aI n]])) (((l.map entA).take ((l.map entA).length)).drop k) (by have hq := posI_le l s; simp only [List.length_map, List.length_cons, List.length_nil, List.length_take, List.length_drop, List.length_append]; omega) (by have hq := posI_le l s; simp only [List.length_map, List.length_cons, List.length_nil, List.length_take, List.length_drop, List.length_append]; omega) fun V5 =>
 .r 2 <| .frz 11 [6, 7] [] [V5 = V5, (((l.take k).map entA) ++ ([[aS s, aI n]])).length + (((l.map entA).take ((l.map entA).length)).drop k).length = ((((l.take k).map entA) ++ ([[aS s, aI n]])) ++ (((l.map entA).take ((l.map entA).length)).drop k)).length] ⟨rfl, (by first | rfl | (simp; done) | (simp; omega)), trivial⟩ <|
 .fin (x := .tup [.sl 2 false ((((l.take k).map entA) ++ ([[aS s, aI n]])) ++ (((l.map entA).take ((l.map entA).length)).drop k)), aI 0]) (r := .tup [.sl 2 false ((entL l s n).map entA), aI (entE l s n)]) [] trivial (by
    have e : entE l s n = 0 := by
      unfold entE
      rw [if_neg (by rw [q1]; decide)]
      rw [if_neg (by omega)]
      rw [if_neg (by rw [q3]; decide)]
      rw [if_neg (by omega)]
    have e2 : entL l s n = l.take (posI l s) ++ ⟨s, n⟩ :: l.drop (posI l s) := if_pos e
    have hk : k = posI l s := by
      have hq := posI_le l s
      omega
    rw [e, e2, ← hk]
    first | exact Sub.tups ⟨Sub.of_eq (congrArg (AV.sl 2 false) (by simp [entA, List.map_take, List.map_drop, take_all])), Sub.refl _, trivial⟩ | exact Sub.tups ⟨(Sub.of_eq (congrArg (AV.sl 2 true) (by simp [entA, List.map_take, List.map_drop, take_all]))).trans (Sub.loose _ _ _), Sub.refl _, trivial⟩)) a1.1 a1.2 ha1) Tryz.func107 rfl (by kernel_rfl) (by kernel_rfl)
end Go.Proofs.YtkhnialfkndiiaaGreat

set_option linter.unusedVariables false
set_option linter.unusedSimpArgs false
namespace Go.Proofs.YtkhnialfkndiiaaGreat
open Go Go.RowKit Copyhold
open Copyhold.Name (Srt insE delE getE isAt)
theorem rentered_spec (f : Fsy) (d : Int) (s : Txt) (i : Int) (okf : OkF f) (hp : rowsP f) (hs : s.length ≤ 1000000) : FSpec Tryz.prog 69 [.agg [.sl 5 false (f.l.map nodA), aI f.next], aI d, aS s, aI i] (.agg (fsyA (enterF f d s i))) := by
  have hl := hp.1
  have hr := rows_rise hp
  exact spec_vc (F := Tryz.f69) 400 (
 .new fun b1 => .new fun b2 => .run 2 [b1 = b1] rt1 <|
 .call (rfind_spec f d (by omega)) <|
 .r 3 <| .new fun b3 => .run 2 [b3 = b3] rt1 <|
 .run 4 [b3 = b3] rt1 <|
 .call (renter_spec (findN f d).l s i (find_srt hp d).2 (find_srt hp d).1 hs) <|
 .r 5 <| .run 3 [b3 = b3] rt1 <|
 .run 2 [b1 = b1, b3 = b3] rt2 <|
 .callS (args0 := [.agg [.sl 5 false (f.l.map nodA), aI f.next], .agg [aI ((findN f d).ino), aI ((findN f d).kind), aI ((findN f d).links), aS ((findN f d).text), .sl 2 false ((entL (findN f d).l s i).map entA)]]) (args := [.agg [.sl 5 false (f.l.map nodA), aI f.next], .agg [aI ((withL (findN f d) (entL (findN f d).l s i)).ino), aI ((withL (findN f d) (entL (findN f d).l s i)).kind), aI ((withL (findN f d) (entL (findN f d).l s i)).links), aS ((withL (findN f d) (entL (findN f d).l s i)).text), .sl 2 false ((withL (findN f d) (entL (findN f d).l s i)).l.map entA)]]) sr2 (rput_spec f (withL (findN f d) (entL (findN f d).l s i)) (find_I64 okf hp d) (by omega) hr) <|
 .run 1 [b2 = b2] rt1 <|
 .fin (x := .agg [.sl 5 false ((putF f (withL (findN f d) (entL (findN f d).l s i))).l.map nodA), aI ((putF f (withL (findN f d) (entL (findN f d).l s i))).next)]) (r := .agg (fsyA (enterF f d s i))) [b2 = b2] rt1 (by exact Sub.refl _)) Tryz.func69 rfl (by kernel_rfl) (by kernel_rfl)
end Go.Proofs.YtkhnialfkndiiaaGreat

set_option linter.unusedVariables false
set_option linter.unusedSimpArgs false
namespace Go.Proofs.YtkhnialfkndiiaaGreat
open Go Go.RowKit Copyhold
open Copyhold.Name (Srt insE delE getE isAt)
theorem first_p {a : Int} {l : List Int} (h : ¬ a = 0) : firstE (a :: l) = a := by unfold firstE; rw [List.find?_cons, show (a != 0) = true from by simpa using h]; rfl
theorem first_z {a : Int} {l : List Int} (h : a = 0) : firstE (a :: l) = firstE l := by unfold firstE; rw [List.find?_cons, show (a != 0) = false from by simpa using h]
theorem radd_spec (f : Fsy) (d : Int) (s : Txt) (n : Nod) (okf : OkF f) (hp : rowsP f) (hs : s.length ≤ 1000000) (okn : OkN n) (hx : f.next < 9223372036854775807) : FSpec Tryz.prog 35 [.agg [.sl 5 false (f.l.map nodA), aI f.next], aI d, aS s, .agg [aI n.ino, aI n.kind, aI n.links, aS n.text, .sl 2 false (n.l.map entA)]] (.tup [.agg (fsyA (if addErr f d s n = 0 then addF f d s (addN f n) else f)), aI (addErr f d s n)]) := by
  have hl := hp.1
  have hr := rows_rise hp
  exact spec_vc (F := Tryz.f35) 400 (
 .new fun b1 => .new fun b2 => .new fun b3 => .r 1 <| .run 2 [b1 = b1] rt1 <|
 .call (rdir_spec f d hp) <|
 .r 3 <| .new fun b4 => .run 2 [b4 = b4] rt1 <|
 .r 2 <| .br 23 ((dirE f d) != 0) (fun q1 => have p1 := bneT q1; .run 4 [b1 = b1, b3 = b3] rt2 <|
 .fin (x := .tup [.agg [.sl 5 false (f.l.map nodA), aI f.next], aI (dirE f d)]) (r := .tup [.agg (fsyA (if addErr f d s n = 0 then addF f d s (addN f n) else f)), aI (addErr f d s n)]) [b3 = b3] rt1 (by
    have e : addErr f d s n = dirE f d := by
      unfold addErr
      rw [first_p (bneT q1)]
    rw [if_neg (by rw [e]; exact bneT q1), e]
    exact Sub.refl _))
 <| fun q1 => have p1 := bneF q1; .r 1 <| .call (rcheck_spec s (by omega)) <|
 .r 1 <| .r 2 <| .br 29 ((checkE s) != 0) (fun q2 => have p2 := bneT q2; .run 4 [b1 = b1, b3 = b3] rt2 <|
 .fin (x := .tup [.agg [.sl 5 false (f.l.map nodA), aI f.next], aI (checkE s)]) (r := .tup [.agg (fsyA (if addErr f d s n = 0 then addF f d s (addN f n) else f)), aI (addErr f d s n)]) [b3 = b3] rt1 (by
    have e : addErr f d s n = checkE s := by
      unfold addErr
      rw [first_z (bneF q1)]
      rw [first_p (bneT q2)]
    rw [if_neg (by rw [e]; exact bneT q2), e]
    exact Sub.refl _))
 <| fun q2 => have p2 := bneF q2; .run 3 [b4 = b4] rt1 <|
 .call (rnfind_spec (dirN f d).l s (by have := (dir_srt hp d).2; omega)) <|
 .r 5 <| .r 1 <| .br 39 (isB (dirN f d).l s) (fun q3 => have p3 := booT q3; .run 3 [b1 = b1, b3 = b3] rt2 <|
 .fin (x := .tup [.agg [.sl 5 false (f.l.map nodA), aI f.next], aI 7]) (r := .tup [.agg (fsyA (if addErr f d s n = 0 then addF f d s (addN f n) else f)), aI (addErr f d s n)]) [b3 = b3] rt1 (by
    have e : addErr f d s n = 7 := by
      unfold addErr
      rw [first_z (bneF q1)]
      rw [first_z (bneF q2)]
      rw [first_p (by simp only [q3, Bool.true_or, Bool.false_or, Bool.or_true, Bool.or_false, Bool.not_true, Bool.not_false]; decide)]
      simp only [q3, Bool.true_or, Bool.false_or, Bool.or_true, Bool.or_false, Bool.not_true, Bool.not_false]
      rfl
    rw [if_neg (by rw [e]; decide), e]
    exact Sub.refl _))
 <| fun q3 => have p3 := booF q3; .run 3 [b1 = b1] rt1 <|
 .val 43 (show (aI ((f.l.map nodA).length : Int) : AV) = aI (f.l.length : Int) from by rw [List.length_map]) <| .r 2 <| .br 45 (decide ((f.l.length : Int) ≥ 256)) (fun q4 => have p4 := decT q4; .r 5 <| .run 3 [b1 = b1, b3 = b3] rt2 <|
 .fin (x := .tup [.agg [.sl 5 false (f.l.map nodA), aI f.next], aI 12]) (r := .tup [.agg (fsyA (if addErr f d s n = 0 then addF f d s (addN f n) else f)), aI (addErr f d s n)]) [b3 = b3] rt1 (by
    have e : addErr f d s n = 12 := by
      unfold addErr
      rw [first_z (bneF q1)]
      rw [first_z (bneF q2)]
      rw [first_z (by simp only [q3, Bool.true_or, Bool.false_or, Bool.or_true, Bool.or_false, Bool.not_true, Bool.not_false]; rfl)]
      rw [first_p (by simp only [q4, Bool.true_or, Bool.false_or, Bool.or_true, Bool.or_false, Bool.not_true, Bool.not_false]; decide)]
      simp only [q4, Bool.true_or, Bool.false_or, Bool.or_true, Bool.or_false, Bool.not_true, Bool.not_false]
      rfl
    rw [if_neg (by rw [e]; decide), e]
    exact Sub.refl _))
 <| fun q4 => have p4 := decF q4; .run 3 [b4 = b4] rt1 <|
 .val 48 (show (aI (((dirN f d).l.map entA).length : Int) : AV) = aI (((dirN f d).l).length : Int) from by rw [List.length_map]) <| .r 2 <| .br 50 (decide ((((dirN f d).l).length : Int) ≥ 256)) (fun q5 => have p5 := decT q5; .run 3 [b1 = b1, b3 = b3] rt2 <|
 .fin (x := .tup [.agg [.sl 5 false (f.l.map nodA), aI f.next], aI 12]) (r := .tup [.agg (fsyA (if addErr f d s n = 0 then addF f d s (addN f n) else f)), aI (addErr f d s n)]) [b3 = b3] rt1 (by
    have e : addErr f d s n = 12 := by
      unfold addErr
      rw [first_z (bneF q1)]
      rw [first_z (bneF q2)]
      rw [first_z (by simp only [q3, Bool.true_or, Bool.false_or, Bool.or_true, Bool.or_false, Bool.not_true, Bool.not_false]; rfl)]
      rw [first_p (by simp only [q4, q5, Bool.true_or, Bool.false_or, Bool.or_true, Bool.or_false, Bool.not_true, Bool.not_false]; decide)]
      simp only [q4, q5, Bool.true_or, Bool.false_or, Bool.or_true, Bool.or_false, Bool.not_true, Bool.not_false]
      rfl
    rw [if_neg (by rw [e]; decide), e]
    exact Sub.refl _))
 <| fun q5 => have p5 := decF q5; .run 4 [b1 = b1, b2 = b2] rt2 <|
 .run 2 [b2 = b2] rt1 <|
 .run 1 [b2 = b2] rt1 <|
 .callS (args0 := [.agg [aI f.next, aI n.kind, aI 1, aS n.text, .sl 2 false (n.l.map entA)]]) (args := [.agg [aI ((addN f n).ino), aI ((addN f n).kind), aI ((addN f n).links), aS ((addN f n).text), .sl 2 false ((addN f n).l.map entA)]]) sr1 (rnright_spec (addN f n) (addN_ok okf okn)) <|
 .r 1 <| .r 3 <| .br 60 (!(dP (nodP (addN f n)))) (fun q6 => have q6 := notT q6; have p6 := booF q6; .r 5 <| .run 3 [b1 = b1, b3 = b3] rt2 <|
 .fin (x := .tup [.agg [.sl 5 false (f.l.map nodA), aI f.next], aI 1]) (r := .tup [.agg (fsyA (if addErr f d s n = 0 then addF f d s (addN f n) else f)), aI (addErr f d s n)]) [b3 = b3] rt1 (by
    have e : addErr f d s n = 1 := by
      unfold addErr
      rw [first_z (bneF q1)]
      rw [first_z (bneF q2)]
      rw [first_z (by simp only [q3, Bool.true_or, Bool.false_or, Bool.or_true, Bool.or_false, Bool.not_true, Bool.not_false]; rfl)]
      rw [first_z (by simp only [q4, q5, Bool.true_or, Bool.false_or, Bool.or_true, Bool.or_false, Bool.not_true, Bool.not_false]; rfl)]
      rw [first_p (by simp only [q6, Bool.true_or, Bool.false_or, Bool.or_true, Bool.or_false, Bool.not_true, Bool.not_false]; decide)]
      simp only [q6, Bool.true_or, Bool.false_or, Bool.or_true, Bool.or_false, Bool.not_true, Bool.not_false]
      rfl
    rw [if_neg (by rw [e]; decide), e]
    exact Sub.refl _))
 <| fun q6 => have q6 := notF q6; have p6 := booT q6; .run 3 [b2 = b2] rt1 <|
 .val 63 (show (aI ((n.l.map entA).length : Int) : AV) = aI (n.l.length : Int) from by rw [List.length_map]) <| .r 2 <| .br 65 (decide ((n.l.length : Int) > 0)) (fun q7 => have p7 := decT q7; .run 3 [b1 = b1, b3 = b3] rt2 <|
 .fin (x := .tup [.agg [.sl 5 false (f.l.map nodA), aI f.next], aI 1]) (r := .tup [.agg (fsyA (if addErr f d s n = 0 then addF f d s (addN f n) else f)), aI (addErr f d s n)]) [b3 = b3] rt1 (by
    have e : addErr f d s n = 1 := by
      unfold addErr
      rw [first_z (bneF q1)]
      rw [first_z (bneF q2)]
      rw [first_z (by simp only [q3, Bool.true_or, Bool.false_or, Bool.or_true, Bool.or_false, Bool.not_true, Bool.not_false]; rfl)]
      rw [first_z (by simp only [q4, q5, Bool.true_or, Bool.false_or, Bool.or_true, Bool.or_false, Bool.not_true, Bool.not_false]; rfl)]
      rw [first_p (by simp only [q6, q7, Bool.true_or, Bool.false_or, Bool.or_true, Bool.or_false, Bool.not_true, Bool.not_false]; decide)]
      simp only [q6, q7, Bool.true_or, Bool.false_or, Bool.or_true, Bool.or_false, Bool.not_true, Bool.not_false]
      rfl
    rw [if_neg (by rw [e]; decide), e]
    exact Sub.refl _))
 <| fun q7 => have p7 := decF q7; have hnl : n.l = [] := List.eq_nil_of_length_eq_zero (by omega); .ord [0, 1, 2, 3, 4, 6, 5, 7, 8, 9] <| .run 6 [b1 = b1, b2 = b2, b2 = b2] rt3 <|
 .call (rentered_spec f d s f.next okf hp hs) <|
 .callS (args0 := [.agg [.sl 5 false ((enterF f d s f.next).l.map nodA), aI ((enterF f d s f.next).next)], .agg [aI f.next, aI n.kind, aI 1, aS n.text, .sl 2 false (n.l.map entA)]]) (args := [.agg [.sl 5 false ((enterF f d s f.next).l.map nodA), aI ((enterF f d s f.next).next)], .agg [aI ((withL (addN f n) []).ino), aI ((withL (addN f n) []).kind), aI ((withL (addN f n) []).links), aS ((withL (addN f n) []).text), .sl 2 false ((withL (addN f n) []).l.map entA)]]) ⟨Sub.refl _, Sub.aggs ⟨Sub.refl _, Sub.refl _, Sub.refl _, Sub.refl _, Sub.of_eq (by rw [hnl]; rfl), trivial⟩, trivial⟩ (rput_spec (enterF f d s f.next) (withL (addN f n) []) ⟨okf.1, hx⟩ (by have := enter_le f d s f.next; omega) (enter_rise hp d s f.next)) <|
 .run 2 [b3 = b3] rt1 <|
 .fin (x := .tup [.agg [.sl 5 false ((putF (enterF f d s f.next) (withL (addN f n) [])).l.map nodA), aI ((putF (enterF f d s f.next) (withL (addN f n) [])).next)], aI 0]) (r := .tup [.agg (fsyA (if addErr f d s n = 0 then addF f d s (addN f n) else f)), aI (addErr f d s n)]) [b3 = b3] rt1 (by
    have e : addErr f d s n = 0 := by
      unfold addErr
      rw [first_z (bneF q1)]
      rw [first_z (bneF q2)]
      rw [first_z (by simp only [q3, Bool.true_or, Bool.false_or, Bool.or_true, Bool.or_false, Bool.not_true, Bool.not_false]; rfl)]
      rw [first_z (by simp only [q4, q5, Bool.true_or, Bool.false_or, Bool.or_true, Bool.or_false, Bool.not_true, Bool.not_false]; rfl)]
      rw [first_z (by simp only [q6, q7, Bool.true_or, Bool.false_or, Bool.or_true, Bool.or_false, Bool.not_true, Bool.not_false]; rfl)]
      rfl
    rw [if_pos e, e]
    exact Sub.refl _)) Tryz.func35 rfl (by kernel_rfl) (by kernel_rfl)
end Go.Proofs.YtkhnialfkndiiaaGreat

set_option linter.unusedVariables false
set_option linter.unusedSimpArgs false
namespace Go.Proofs.YtkhnialfkndiiaaGreat
open Go Go.RowKit Copyhold
open Copyhold.Name (Srt insE delE getE isAt)
end Go.Proofs.YtkhnialfkndiiaaGreat

set_option linter.unusedVariables false
set_option linter.unusedSimpArgs false
namespace Go.Proofs.YtkhnialfkndiiaaGreat
open Go Go.RowKit Copyhold
def midF (f : Fsy) : Prop := f.l.length + (f.l.map wN).sum ≤ 260
theorem Dst.leM {f : Fsy} {U : List Int} (h : Dst f U) (hf : midF f) : U.length ≤ 260 := by
  have := nodup_le h.1 h.2
  rw [inos_len] at this
  unfold midF at hf
  omega
theorem UH.stepM {f : Fsy} {i : Int} {U : List Int} {p j : Nat} {z : Int} (hf : midF f) (h : UH f i U p) (hz : U[p]? = some z) (hj : (findN f z).l.length ≤ j) : UH f i (addE U ((findN f z).l.take j)) (p + 1) := by
  obtain ⟨h1, h2, h3⟩ := h
  have hp := lt_of_some hz
  have hl := h1.leM hf
  refine ⟨ent_find_dst h1 z j, by have := addE_len ((findN f z).l.take j) U; omega, ?_⟩
  rw [take_all hj, ← h3, show 300 - p = (300 - (p + 1)) + 1 from by omega]
  simp only [goU, hz]
theorem under_leM {f : Fsy} (hf : midF f) (i : Int) : (underF f i).length ≤ 260 :=
  (goU_dst 300 0 (addE_dst (Dst.nil f) fun e he => find_ent he)).leM hf
theorem cnts_fewM {f : Fsy} (hf : midF f) (i : Int) (k : Nat) : ((f.l.take k).map (cntE i)).sum ≤ 260 := by
  have := cnts_le i f.l
  have := sum_take_le (cntE i) f.l k
  unfold midF at hf
  omega
theorem names_specM (f : Fsy) (i : Int) (okf : OkF f) (hf : midF f) : FSpec Tryz.prog 64 [.agg [.sl 5 false (f.l.map nodA), aI f.next], aI i] (aI (namesF f i : Int)) := by
  have hfl := okf.2.1
  exact spec_vc (F := Tryz.f64) 400 (
 .new fun b1 => .r 1 <| .r 1 <| .r 1 <| let L1 : Lp (Nat) := ⟨fun a1 => ⟨[(1, aI i), (2, .ptr 2 b1 0), (6, aI (a1 : Int)), (5, aI (((f.l.take a1).map (cntE i)).sum : Int))], [(2, .box b1 24 [.sl 5 false (f.l.map nodA), aI f.next])]⟩, fun a1 => f.l.length - a1, fun a1 => a1 ≤ f.l.length⟩
 .loop L1 0 (show 0 ≤ f.l.length from Nat.zero_le _) ⟨[(1, aI i), (2, .ptr 2 b1 0), (6, aI 0), (5, aI 0)], [(2, .box b1 24 [.sl 5 false (f.l.map nodA), aI f.next])]⟩ ⟨Sub.refl _, Sub.refl _, Sub.of_eq (congrArg aI (by first | omega | rfl)), Sub.of_eq (congrArg aI (by first | omega | rfl)), trivial⟩ ⟨⟨_, rfl, SubB.refl _⟩, trivial⟩ fun a1 ha1 =>
 (fun (k : Nat) (hH1 : k ≤ f.l.length) => have hs1 := cnts_fewM hf i k; .run 4 [b1 = b1] rt1 <|
 .val 11 (show (aI ((f.l.map nodA).length : Int) : AV) = aI (f.l.length : Int) from by rw [List.length_map]) <| .r 1 <| .br 12 (decide ((k : Int) < (f.l.length : Int))) (fun q1 => have p1 := decT q1; .r 1 <| .ex (some_of (l := f.l) (k := k) (by omega)) fun x1 hx1 =>
 have okx1 := okf.2.2 x1 (List.mem_of_getElem? hx1); have blx1 := okx1.2.2.2.2.1; let L2 : Lp (Nat) := ⟨fun a2 => ⟨[(1, aI i), (2, .ptr 2 b1 0), (6, aI (k : Int)), (7, aI (a2 : Int)), (5, aI ((((f.l.take k).map (cntE i)).sum + cntK i x1.l a2 : Nat) : Int))], [(2, .box b1 24 [.sl 5 false (f.l.map nodA), aI f.next])]⟩, fun a2 => x1.l.length - a2, fun a2 => a2 ≤ x1.l.length⟩
 .loop L2 0 (show 0 ≤ x1.l.length from Nat.zero_le _) ⟨[(1, aI i), (2, .ptr 2 b1 0), (6, aI (k : Int)), (7, aI 0), (5, aI (((f.l.take k).map (cntE i)).sum : Int))], [(2, .box b1 24 [.sl 5 false (f.l.map nodA), aI f.next])]⟩ ⟨Sub.refl _, Sub.refl _, Sub.refl _, Sub.of_eq (congrArg aI (by first | omega | rfl)), Sub.of_eq (congrArg aI (by simp [cntK])), trivial⟩ ⟨⟨_, rfl, SubB.refl _⟩, trivial⟩ fun a2 ha2 =>
 (fun (j : Nat) (hH2 : j ≤ x1.l.length) => have hs2 := cntK_le i x1.l j; .run 4 [b1 = b1] rt1 <|
 .idx k (m := (k : Int)) (xs := f.l.map nodA) (e := nodA x1) rfl (map_some hx1) <|
 .r 3 <| .val 22 (show (aI ((x1.l.map entA).length : Int) : AV) = aI (x1.l.length : Int) from by rw [List.length_map]) <| .r 1 <| .br 23 (decide ((j : Int) < (x1.l.length : Int))) (fun q2 => have p2 := decT q2; .run 3 [b1 = b1] rt1 <|
 .idx k (m := (k : Int)) (xs := f.l.map nodA) (e := nodA x1) rfl (map_some hx1) <|
 .r 3 <| .idxM x1.l entA j (m := (j : Int)) rfl (by omega) fun x2 hx2 =>
 .r 4 <| .br 37 (x2.ino == i) (fun q3 => have p3 := beqT q3; .run 3 [rng .i64 (((((f.l.take k).map (cntE i)).sum + cntK i x1.l j : Nat) : Int) + 1)] ⟨rng64 (by omega) (by omega), trivial⟩ <|
 .run 3 [rng .i64 ((j : Int) + 1)] ⟨rng64 (by omega) (by omega), trivial⟩ <|
 .back L2 j (j + 1) (show (j + 1) ≤ x1.l.length from (by show _ ≤ _; omega)) (show x1.l.length - (j + 1) < x1.l.length - j from (by omega)) ⟨[(1, aI i), (2, .ptr 2 b1 0), (6, aI (k : Int)), (7, aI ((j : Int) + 1)), (5, aI (((((f.l.take k).map (cntE i)).sum + cntK i x1.l j : Nat) : Int) + 1))], [(2, .box b1 24 [.sl 5 false (f.l.map nodA), aI f.next])]⟩ ⟨Sub.refl _, Sub.refl _, Sub.refl _, Sub.of_eq (congrArg aI (by first | omega | rfl)), Sub.of_eq (congrArg aI (by rw [cntK_yes hx2 q3] <;> omega)), trivial⟩ ⟨⟨_, rfl, SubB.refl _⟩, trivial⟩)
 <| fun q3 => have p3 := beqF q3; .run 3 [rng .i64 ((j : Int) + 1)] ⟨rng64 (by omega) (by omega), trivial⟩ <|
 .back L2 j (j + 1) (show (j + 1) ≤ x1.l.length from (by show _ ≤ _; omega)) (show x1.l.length - (j + 1) < x1.l.length - j from (by omega)) ⟨[(1, aI i), (2, .ptr 2 b1 0), (6, aI (k : Int)), (7, aI ((j : Int) + 1)), (5, aI ((((f.l.take k).map (cntE i)).sum + cntK i x1.l j : Nat) : Int))], [(2, .box b1 24 [.sl 5 false (f.l.map nodA), aI f.next])]⟩ ⟨Sub.refl _, Sub.refl _, Sub.refl _, Sub.of_eq (congrArg aI (by first | omega | rfl)), Sub.of_eq (congrArg aI (by rw [cntK_no hx2 q3] <;> omega)), trivial⟩ ⟨⟨_, rfl, SubB.refl _⟩, trivial⟩)
 <| fun q2 => have p2 := decF q2; .run 3 [rng .i64 ((k : Int) + 1)] ⟨rng64 (by omega) (by omega), trivial⟩ <|
 .back L1 k (k + 1) (show (k + 1) ≤ f.l.length from (by show _ ≤ _; omega)) (show f.l.length - (k + 1) < f.l.length - k from (by omega)) ⟨[(1, aI i), (2, .ptr 2 b1 0), (6, aI ((k : Int) + 1)), (5, aI ((((f.l.take k).map (cntE i)).sum + cntK i x1.l j : Nat) : Int))], [(2, .box b1 24 [.sl 5 false (f.l.map nodA), aI f.next])]⟩ ⟨Sub.refl _, Sub.refl _, Sub.of_eq (congrArg aI (by first | omega | rfl)), Sub.of_eq (congrArg aI (by rw [sum_take (cntE i) hx1, ← cntK_all (i := i) (n := x1) (j := j) (by omega)] <;> omega)), trivial⟩ ⟨⟨_, rfl, SubB.refl _⟩, trivial⟩) a2 ha2)
 <| fun q1 => have p1 := decF q1; .r 2 <| .fin (x := aI (((f.l.take k).map (cntE i)).sum : Int)) (r := aI (namesF f i : Int)) [] trivial (by exact Sub.of_eq (congrArg aI (by rw [take_all (by omega)]; rfl)))) a1 ha1) Tryz.func64 rfl (by kernel_rfl) (by kernel_rfl)
end Go.Proofs.YtkhnialfkndiiaaGreat
