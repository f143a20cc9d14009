/- store.with of versions, of counts, of chains; place, version. -/
import Derived.Test.YtibcmgmlklehdaaStoIns
set_option linter.unusedVariables false
set_option linter.unusedSimpArgs false
namespace Go.Proofs.Ytibcmgmlklehdaa
open Go Go.RowKit Copyhold
set_option maxRecDepth 100000 in
set_option maxHeartbeats 4000000 in
theorem withV_spec (l : List Ver) (i : Nat) (c : Ver) (hi : i ≤ l.length) (hn : l.length ≤ 100000) : FSpec Try.prog 52 [.sl 7 false (l.map verA), aI (i : Int), .agg [aI c.stamp, aB c.gone, aI c.n.ino, aI c.n.kind, aI c.n.links, aS c.n.text, .sl 2 false (c.n.l.map entA)]] (.sl 7 false ((l.take i ++ c :: l.drop i).map verA)) := by
  exact spec_vc (F := Try.f52) 400 (
 .new fun b1 => .r 1 <| .ord [0, 1, 2, 3, 4, 5, 6, 7, 8, 9, 10] <| .r 3 <| .val 9 (show (aI ((l.map verA).length : Int) : AV) = aI (l.length : Int) from by rw [List.length_map]) <| .r 2 <| .val 11 (show (aI ((l.map verA).length : Int) : AV) = aI (l.length : Int) from by rw [List.length_map]) <| .slc 7 false (l.map verA) none (some (l.length : Int)) (some (l.length : Int)) 0 l.length true (.inl ⟨rfl, rfl⟩) (.inr rfl) (.inr ⟨rfl, rfl⟩) (by first | omega | (simp; done) | (simp; omega)) (by first | omega | (simp; done) | (simp; omega)) <|
 .run 3 [b1 = b1] ⟨rfl, trivial⟩ <|
 .callS (args0 := [.sl 7 true (((l.map verA).take l.length).drop 0), aI (i : Int), .sl 7 true ([[aI c.stamp, aB c.gone, aI c.n.ino, aI c.n.kind, aI c.n.links, aS c.n.text, .sl 2 false (c.n.l.map entA)]])]) (args := [.sl 7 true (l.map verA), aI (i : Int), .sl 7 false ([[aI c.stamp, aB c.gone, aI c.n.ino, aI c.n.kind, aI c.n.links, aS c.n.text, .sl 2 false (c.n.l.map entA)]])]) ⟨Sub.of_eq (by rw [List.drop_zero, List.take_of_length_le (by simp)]), Sub.refl _, Sub.loose _ _ _, trivial⟩ (insV_spec (l.map verA) ([[aI c.stamp, aB c.gone, aI c.n.ino, aI c.n.kind, aI c.n.links, aS c.n.text, .sl 2 false (c.n.l.map entA)]]) i false (by rw [List.length_map]; omega) (by simp) (by rw [List.length_map]; omega) (by simp) (fun l h => by obtain ⟨z, _, rfl⟩ := List.mem_map.1 h; rfl) (fun l h => by obtain rfl := List.mem_singleton.1 h; rfl)) <|
 .r 1 <| .fin (x := .sl 7 false ((l.map verA).take i ++ [[aI c.stamp, aB c.gone, aI c.n.ino, aI c.n.kind, aI c.n.links, aS c.n.text, .sl 2 false (c.n.l.map entA)]] ++ (l.map verA).drop i)) (r := .sl 7 false ((l.take i ++ c :: l.drop i).map verA)) [] trivial (by exact Sub.of_eq (by simp [verA, List.map_take, List.map_drop]))) Try.func52 rfl (by kernel_rfl) (by kernel_rfl)
set_option maxRecDepth 100000 in
set_option maxHeartbeats 4000000 in
theorem withC_spec (l : List Cnt) (i : Nat) (c : Cnt) (hi : i ≤ l.length) (hn : l.length ≤ 100000) : FSpec Try.prog 54 [.sl 2 false (l.map cntA), aI (i : Int), .agg [aI c.stamp, aI c.next]] (.sl 2 false ((l.take i ++ c :: l.drop i).map cntA)) := by
  exact spec_vc (F := Try.f54) 400 (
 .new fun b1 => .r 1 <| .ord [0, 1, 2, 3, 4, 5, 6, 7, 8, 9, 10] <| .r 3 <| .val 9 (show (aI ((l.map cntA).length : Int) : AV) = aI (l.length : Int) from by rw [List.length_map]) <| .r 2 <| .val 11 (show (aI ((l.map cntA).length : Int) : AV) = aI (l.length : Int) from by rw [List.length_map]) <| .slc 2 false (l.map cntA) none (some (l.length : Int)) (some (l.length : Int)) 0 l.length true (.inl ⟨rfl, rfl⟩) (.inr rfl) (.inr ⟨rfl, rfl⟩) (by first | omega | (simp; done) | (simp; omega)) (by first | omega | (simp; done) | (simp; omega)) <|
 .run 3 [b1 = b1] ⟨rfl, trivial⟩ <|
 .callS (args0 := [.sl 2 true (((l.map cntA).take l.length).drop 0), aI (i : Int), .sl 2 true ([[aI c.stamp, aI c.next]])]) (args := [.sl 2 true (l.map cntA), aI (i : Int), .sl 2 false ([[aI c.stamp, aI c.next]])]) ⟨Sub.of_eq (by rw [List.drop_zero, List.take_of_length_le (by simp)]), Sub.refl _, Sub.loose _ _ _, trivial⟩ (insC_spec (l.map cntA) ([[aI c.stamp, aI c.next]]) i false (by rw [List.length_map]; omega) (by simp) (by rw [List.length_map]; omega) (by simp) (fun l h => by obtain ⟨z, _, rfl⟩ := List.mem_map.1 h; rfl) (fun l h => by obtain rfl := List.mem_singleton.1 h; rfl)) <|
 .r 1 <| .fin (x := .sl 2 false ((l.map cntA).take i ++ [[aI c.stamp, aI c.next]] ++ (l.map cntA).drop i)) (r := .sl 2 false ((l.take i ++ c :: l.drop i).map cntA)) [] trivial (by exact Sub.of_eq (by simp [cntA, List.map_take, List.map_drop]))) Try.func54 rfl (by kernel_rfl) (by kernel_rfl)
set_option maxRecDepth 100000 in
set_option maxHeartbeats 4000000 in
theorem withH_row (l : List Chn) (i : Nat) (c : Chn) (hi : i ≤ l.length) (hn : l.length ≤ 100000) : RowSpecD Try.prog 51 [.sl 2 false (l.map chnA), aI (i : Int), .agg [aI c.ino, .sl 7 false (c.l.map verA)]] 53 2 ((l.take i ++ c :: l.drop i).map chnA) := by
  exact specRow_vc (F := Try.f51) 400 (
 .new fun b1 => .r 1 <| .ord [0, 1, 2, 3, 4, 5, 6, 7, 8, 9, 10] <| .r 3 <| .val 9 (show (aI ((l.map chnA).length : Int) : AV) = aI (l.length : Int) from by rw [List.length_map]) <| .r 2 <| .val 11 (show (aI ((l.map chnA).length : Int) : AV) = aI (l.length : Int) from by rw [List.length_map]) <| .slc 2 false (l.map chnA) none (some (l.length : Int)) (some (l.length : Int)) 0 l.length true (.inl ⟨rfl, rfl⟩) (.inr rfl) (.inr ⟨rfl, rfl⟩) (by first | omega | (simp; done) | (simp; omega)) (by first | omega | (simp; done) | (simp; omega)) <|
 .run 3 [b1 = b1] ⟨rfl, trivial⟩ <|
 .op (crR Try.prog 16) (68, [.sl 2 true (((l.map chnA).take l.length).drop 0), aI (i : Int), .sl 2 true ([[aI c.ino, .sl 7 false (c.l.map verA)]])], 16) (fun (V : Value) σ => (σ.put (some 16) (.rw 16 V ((l.map chnA).take i ++ [[aI c.ino, .sl 7 false (c.l.map verA)]] ++ (l.map chnA).drop i).length)).setB 16 (.row V 53 2 ((l.map chnA).take i ++ [[aI c.ino, .sl 7 false (c.l.map verA)]] ++ (l.map chnA).drop i))) (rule_cr (args' := [.sl 2 true (l.map chnA), aI (i : Int), .sl 2 false ([[aI c.ino, .sl 7 false (c.l.map verA)]])]) ⟨Sub.of_eq (by rw [List.drop_zero, List.take_of_length_le (by simp)]), Sub.refl _, Sub.loose _ _ _, trivial⟩ (insH_row (l.map chnA) ([[aI c.ino, .sl 7 false (c.l.map verA)]]) i false (by rw [List.length_map]; omega) (by simp) (by rw [List.length_map]; omega) (by simp) (fun l h => by obtain ⟨z, _, rfl⟩ := List.mem_map.1 h; rfl) (fun l h => by obtain rfl := List.mem_singleton.1 h; rfl))) fun V1 =>
 .r 1 <| .finRow (x := (l.map chnA).take i ++ [[aI c.ino, .sl 7 false (c.l.map verA)]] ++ (l.map chnA).drop i) (r := (l.take i ++ c :: l.drop i).map chnA) [] trivial 16 53 2 (((l.map chnA).take i ++ [[aI c.ino, .sl 7 false (c.l.map verA)]] ++ (l.map chnA).drop i).length) V1 (by simp [chnA, List.map_take, List.map_drop])) Try.func51 rfl (by kernel_rfl) (by kernel_rfl)
def placeD (l : List Chn) (n : Int) : Nat := (l.takeWhile fun c => decide (c.ino < n)).length
def thereD (l : List Chn) (n : Int) : Bool := match l[placeD l n]? with | some c => c.ino == n | none => false
theorem place_end {n : Int} : ∀ {l : List Chn}, AllQ (fun _ c => c.ino < n) l → placeD l n = l.length
  | [], _ => rfl
  | x :: r, h => by
    have h1 : x.ino < n := h 0 x rfl
    have h2 := place_end (l := r) fun i e he => h (i + 1) e (by simpa using he)
    unfold placeD at h2 ⊢
    simp [h1, h2]
theorem place_at {n : Int} : ∀ {l : List Chn} {k : Nat} {x : Chn}, AllTo (fun _ c => c.ino < n) l k → l[k]? = some x → ¬ x.ino < n → placeD l n = k
  | y :: r, 0, x, _, hx, hp => by
    simp at hx; subst hx
    unfold placeD
    simp [hp]
  | y :: r, k + 1, x, h, hx, hp => by
    have h1 : y.ino < n := h 0 y (by omega) rfl
    have h2 := place_at (l := r) (k := k) (fun j e hj he => h (j + 1) e (by omega) (by simpa using he)) (by simpa using hx) hp
    unfold placeD at h2 ⊢
    simp [h1, h2]
theorem there_at {n : Int} {l : List Chn} {k : Nat} {x : Chn} (h : placeD l n = k) (hx : l[k]? = some x) : thereD l n = (x.ino == n) := by
  unfold thereD; rw [h, hx]
theorem there_end {n : Int} {l : List Chn} (h : placeD l n = l.length) : thereD l n = false := by
  unfold thereD; rw [h, List.getElem?_eq_none (Nat.le_refl _)]
def versionD (c : Chg) (st : Int) : Ver := if c.gone then ⟨st, true, nod0⟩ else ⟨st, false, ⟨c.ino, c.n.kind, c.n.links, c.n.text, c.n.l⟩⟩
set_option maxRecDepth 100000 in
set_option maxHeartbeats 4000000 in
theorem place_spec (l : List Chn) (n : Int) (hl : l.length ≤ 100000) : FSpec Try.prog 50 [.sl 2 false (l.map chnA), aI n] (.tup [aI (placeD l n : Int), aB (thereD l n)]) := by
  exact spec_vc (F := Try.f50) 400 (
 .r 2 <| .r 2 <| .val 11 (show (aI ((l.map chnA).length : Int) : AV) = aI (l.length : Int) from by rw [List.length_map]) <| .r 2 <| .r 2 <| .val 13 (show (aI ((l.map chnA).length : Int) : AV) = aI (l.length : Int) from by rw [List.length_map]) <| .r 1 <| let L1 : Lp (Nat) := ⟨fun a1 => ⟨[(1, aI n), (12, .sl 2 false (l.map chnA)), (13, aI (l.length : Int)), (14, aI (a1 : Int)), (6, aI (l.length : Int)), (7, aB false)], []⟩, fun a1 => l.length - a1, fun a1 => a1 ≤ l.length ∧ AllTo (fun _ c => c.ino < n) l a1⟩
 .loop L1 0 (show 0 ≤ l.length ∧ AllTo (fun _ c => c.ino < n) l 0 from ⟨Nat.zero_le _, AllTo.zero _ _⟩) ⟨[(1, aI n), (12, .sl 2 false (l.map chnA)), (13, aI (l.length : Int)), (14, aI 0), (6, aI (l.length : Int)), (7, aB false)], []⟩ ⟨Sub.refl _, Sub.refl _, Sub.refl _, Sub.of_eq (congrArg aI (by first | omega | rfl)), Sub.refl _, Sub.refl _, trivial⟩ trivial fun a1 ha1 =>
 (fun (k : Nat) (hH1 : k ≤ l.length ∧ AllTo (fun _ c => c.ino < n) l k) => .r 1 <| .br 15 (decide ((k : Int) < (l.length : Int))) (fun q1 => have p1 := decT q1; .r 1 <| .idxM l chnA k (m := (k : Int)) rfl (by omega) fun x1 hx1 =>
 .r 1 <| .new fun b1 => .run 2 [b1 = b1] ⟨rfl, trivial⟩ <|
 .run 5 [b1 = b1] ⟨rfl, trivial⟩ <|
 .br 19 (decide (x1.ino < n)) (fun q2 => have p2 := decT q2; .run 2 [rng .i64 ((k : Int) + 1)] ⟨rng64 (by omega) (by omega), trivial⟩ <|
 .back L1 k (k + 1) (show (k + 1) ≤ l.length ∧ AllTo (fun _ c => c.ino < n) l (k + 1) from ⟨by omega, hH1.2.step hx1 (by omega)⟩) (show l.length - (k + 1) < l.length - k from (by omega)) ⟨[(1, aI n), (12, .sl 2 false (l.map chnA)), (13, aI (l.length : Int)), (14, aI ((k : Int) + 1)), (6, aI (l.length : Int)), (7, aB false)], []⟩ ⟨Sub.refl _, Sub.refl _, Sub.refl _, Sub.of_eq (congrArg aI (by first | omega | rfl)), Sub.refl _, Sub.refl _, trivial⟩ trivial)
 <| fun q2 => have p2 := decF q2; .run 5 [b1 = b1] ⟨rfl, trivial⟩ <|
 .br 24 (x1.ino == n) (fun q3 => have p3 := beqT q3; .r 1 <| .r 2 <| .r 4 <| .fin (x := .tup [aI (k : Int), aB true]) (r := .tup [aI (placeD l n : Int), aB (thereD l n)]) [] trivial (by
    have e := place_at hH1.2 hx1 (by omega)
    rw [there_at e hx1, e, show (x1.ino == n) = true from q3]
    exact Sub.refl _))
 <| fun q3 => have p3 := beqF q3; .r 2 <| .r 4 <| .fin (x := .tup [aI (k : Int), aB false]) (r := .tup [aI (placeD l n : Int), aB (thereD l n)]) [] trivial (by
    have e := place_at hH1.2 hx1 (by omega)
    rw [there_at e hx1, e, show (x1.ino == n) = false from q3]
    exact Sub.refl _))
 <| fun q1 => have p1 := decF q1; .r 4 <| .fin (x := .tup [aI (l.length : Int), aB false]) (r := .tup [aI (placeD l n : Int), aB (thereD l n)]) [] trivial (by
    have e := place_end (hH1.2.full (by omega))
    rw [there_end e, e]
    exact Sub.refl _)) a1 ha1) Try.func50 rfl (by kernel_rfl) (by kernel_rfl)
set_option maxRecDepth 100000 in
set_option maxHeartbeats 4000000 in
theorem version_spec (c : Chg) (st : Int) : FSpec Try.prog 53 [.agg [aI c.ino, aB c.gone, aI c.n.ino, aI c.n.kind, aI c.n.links, aS c.n.text, .sl 2 false (c.n.l.map entA)], aI st] (.agg (verA (versionD c st))) := by
  exact spec_vc (F := Try.f53) 400 (
 .new fun b1 => .new fun b2 => .run 2 [b1 = b1] ⟨rfl, trivial⟩ <|
 .br 7 (c.gone) (fun q1 => have p1 := booT q1; .run 3 [b2 = b2] ⟨rfl, trivial⟩ <|
 .fin (x := .agg [aI st, aB true, aI 0, aI 0, aI 0, aS ([]), aN]) (r := .agg (verA (versionD c st))) [b2 = b2] ⟨rfl, trivial⟩ (by
    rw [show versionD c st = ⟨st, true, nod0⟩ from if_pos q1]
    exact Sub.aggs ⟨Sub.refl _, Sub.refl _, Sub.refl _, Sub.refl _, Sub.refl _, Sub.refl _, Sub.nil _ _, trivial⟩))
 <| fun q1 => have p1 := booF q1; .run 4 [b1 = b1] ⟨rfl, trivial⟩ <|
 .new fun b3 => .run 1 [b3 = b3] ⟨rfl, trivial⟩ <|
 .run 5 [b1 = b1, b3 = b3] ⟨rfl, rfl, trivial⟩ <|
 .run 2 [b3 = b3, b2 = b2] ⟨rfl, rfl, trivial⟩ <|
 .fin (x := .agg [aI st, aB false, aI c.ino, aI c.n.kind, aI c.n.links, aS c.n.text, .sl 2 false (c.n.l.map entA)]) (r := .agg (verA (versionD c st))) [b2 = b2] ⟨rfl, trivial⟩ (by
    rw [show versionD c st = _ from if_neg (by rw [q1]; simp)]
    exact Sub.refl _)) Try.func53 rfl (by kernel_rfl) (by kernel_rfl)
end Go.Proofs.Ytibcmgmlklehdaa
