/- copyholdref04.Flush, Crash. -/
import Derived.Test.YtlcepboedifniaaGreatDoorMrgQ
set_option linter.unusedVariables false
set_option linter.unusedSimpArgs false
namespace Go.Proofs.YtlcepboedifniaaGreatDoor
open Go Go.RowKit Copyhold Copyhold.Disk
def flD (d : Dsk) : Dsk := ⟨imageL d, [], false⟩
def crK (l : List Txt) (ws : List (Int × Txt)) (keep : List Bool) : Nat → List Txt
  | 0 => l
  | k + 1 => if keep.getD k false = true then (crK l ws keep k).set (ws.getD k (0, [])).1.toNat (ws.getD k (0, [])).2 else crK l ws keep k
theorem crK_len (l : List Txt) (ws : List (Int × Txt)) (keep : List Bool) : ∀ k, (crK l ws keep k).length = l.length
  | 0 => rfl
  | k + 1 => by
    unfold crK
    split
    · rw [List.length_set, crK_len l ws keep k]
    · exact crK_len l ws keep k
theorem crK_yes {l : List Txt} {ws : List (Int × Txt)} {keep : List Bool} {k : Nat} {x : Bool} {p : Int × Txt} (hk : keep[k]? = some x) (hx : x = true) (hp : ws[k]? = some p) : crK l ws keep (k + 1) = (crK l ws keep k).set p.1.toNat p.2 := by
  have e1 : keep.getD k false = true := by rw [List.getD_eq_getElem?_getD, hk]; exact hx
  have e2 : ws.getD k (0, []) = p := by rw [List.getD_eq_getElem?_getD, hp]; rfl
  show (if keep.getD k false = true then _ else _) = _
  rw [if_pos e1, e2]
theorem crK_no {l : List Txt} {ws : List (Int × Txt)} {keep : List Bool} {k : Nat} {x : Bool} (hk : keep[k]? = some x) (hx : x = false) : crK l ws keep (k + 1) = crK l ws keep k := by
  have e1 : ¬ keep.getD k false = true := by rw [List.getD_eq_getElem?_getD, hk, hx]; decide
  exact if_neg e1
def crD (d : Dsk) (keep : List Bool) : Dsk := ⟨crK d.kept d.w keep (min d.w.length keep.length), [], false⟩
def boA (b : Bool) : List AV := [aB b]
set_option maxRecDepth 100000 in
set_option maxHeartbeats 4000000 in
theorem flush_spec (d : Dsk) (hr : Copyhold.Disk.Right d) (hw : d.w.length ≤ 8796093022208) (ho : d.off = false) : FSpec Tryz.prog 18 [.agg [.sl 1 false (d.kept.map txA), .sl 2 false (d.w.map putA), aB d.off]] (.tup [.agg (dskA (flD d)), aI 0]) := by
  exact spec_vd Tryz.func18 (let R : AV := .tup [.agg (dskA (flD d)), aI 0];
 .new fun b1 => .new fun b2 => .r 1 <| .u 2 [b1] <|
 .is 5 (show (d.off) = false from ho) <| .u 1 [b1] <|
 .call (rimage_spec d hr hw) <|
 .u 3 [b2] <|
 .f R [b2] (.tup [.agg [.sl 1 false ((imageL d).map txA), aN, aB false], aI 0]) (by exact Sub.tups ⟨Sub.aggs ⟨Sub.refl _, Sub.nil _ _, Sub.refl _, trivial⟩, Sub.refl _, trivial⟩))
set_option maxRecDepth 100000 in
set_option maxHeartbeats 4000000 in
theorem crash_spec (d : Dsk) (keep : List Bool) (hr : Copyhold.Disk.Right d) (hw : d.w.length ≤ 8796093022208) (hkp : keep.length ≤ 281474976710656) : FSpec Tryz.prog 21 [.agg [.sl 1 false (d.kept.map txA), .sl 2 false (d.w.map putA), aB d.off], .sl 1 false (keep.map boA)] (.agg (dskA (crD d keep))) := by
  have hr1 := hr.1
  exact spec_vd Tryz.func21 (
 .new fun b1 => .new fun b2 => .lit0 fun V1 => .u 2 [b1] <|
 .app 16 V1 ([] : List (List AV)) (d.kept.map txA) (by simp only [List.length_map, List.length_nil, List.length_append]; omega) (by simp only [List.length_map, List.length_nil, List.length_append]; omega) fun V2 =>
 .r 1 <| .r 1 <| let L1 : Lp (Nat × Value) := ⟨fun a1 => ⟨[(1, .sl 1 false (keep.map boA)), (2, .ptr 2 b1 0), (4, .ptr 4 b2 0), (6, aI (a1.1 : Int)), (5, .rw 7 a1.2 ((crK d.kept d.w keep a1.1).length))], [(2, .box b1 25 [.sl 1 false (d.kept.map txA), .sl 2 false (d.w.map putA), aB d.off]), (4, .box b2 25 [aN, aN, aB false]), (7, .row a1.2 9 1 ((crK d.kept d.w keep a1.1).map txA))]⟩, fun a1 => d.w.length - a1.1, fun a1 => a1.1 ≤ d.w.length ∧ a1.1 ≤ keep.length⟩
 .lp L1 (0, V2) ⟨Nat.zero_le _, Nat.zero_le _⟩ [(6, aI 0), (5, .rw 7 V2 (([] : List (List AV)).length + (d.kept.map txA).length))] [(7, .row V2 9 1 (([] : List (List AV)) ++ (d.kept.map txA)))] ⟨Sub.refl _, Sub.refl _, Sub.refl _, sO, Sub.of_eq (congrArg (AV.rw 7 V2) (by simp [crK])), trivial⟩ ⟨sB, sB, ⟨_, rfl, SubB.of_eq (by simp [crK])⟩, trivial⟩ fun a1 ha1 =>
 (fun (k : Nat) (V : Value) (hH1 : k ≤ d.w.length ∧ k ≤ keep.length) => .u 4 [b1] <|
 .lm 14 d.w putA <| .r 2 <| .bd 16 ((k : Int) < (d.w.length : Int)) (fun p1 => .r 3 <| .lm 19 keep boA <| .r 2 <| .bd 21 ((k : Int) < (keep.length : Int)) (fun p2 => .r 2 <| .idxM keep boA k (m := (k : Int)) rfl (by omega) fun x1 hx1 =>
 .r 1 <| .br 27 (x1) (fun q3 => have p3 := booT q3; .st (rowR 7) (V, 9, 1, (crK d.kept d.w keep k).map txA) (fun _ σ => σ) (rule_shape 7 (by first | omega | (simp only [List.length_map, crK_len]; omega))) fun a3r =>
 .ord [0, 1, 2, 3, 4, 5, 6, 7, 8, 9, 10, 11, 12, 13, 14] <| .u 4 [b1] <|
 .idxM d.w putA k (m := (k : Int)) rfl (by omega) fun x2 hx2 =>
 have hre := (hr.2.2 x2 (List.mem_of_getElem? hx2)).1; have hlI := crK_len d.kept d.w keep k; .u 5 [b1] <|
 .idx k (m := (k : Int)) (xs := d.w.map putA) (e := putA x2) rfl (map_some hx2) <|
 .r 2 <| .op (ixR Tryz.prog) (7, V, (crK d.kept d.w keep k).length, 1, x2.1, some 41) (fun (_ : Unit) σ => σ.put (some 41) (.ep 7 V 1 ((x2.1).toNat) 0)) (rule_ixR ((x2.1).toNat) a3r.2.1 (by omega) (by first | omega | (simp only [List.length_map, crK_len]; omega))) fun _ =>
 .ex (some_of (l := (crK d.kept d.w keep k)) (k := (x2.1).toNat) (by first | omega | (simp only [List.length_map, crK_len]; omega))) fun x3 hx3 =>
 .op (stR Tryz.prog) (7, V, 1, (x2.1).toNat, 0, V, 9, 1, (crK d.kept d.w keep k).map txA, [aS x2.2], none) (fun (_ : Unit) σ => (σ.put (none) .any).setB 7 (.row V 9 1 (((crK d.kept d.w keep k).map txA).set ((x2.1).toNat) ((txA x3).take 0 ++ [aS x2.2] ++ (txA x3).drop (0 + [aS x2.2].length))))) (rule_stR (txA x3) (by rw [List.getElem?_map, hx3]; rfl) (Nat.le_of_ble_eq_true rfl)) fun _ =>
 .run 3 [rng .i64 ((k : Int) + 1)] ⟨rng64 (by omega) (by omega), trivial⟩ <|
 .bk L1 (k, V) ((k + 1), V) ⟨by omega, by omega⟩ (show d.w.length - (k + 1) < d.w.length - k from (by omega)) [(6, aI ((k : Int) + 1)), (5, .rw 7 V ((crK d.kept d.w keep k).length))] [(7, .row V 9 1 (((crK d.kept d.w keep k).map txA).set ((x2.1).toNat) ((txA x3).take 0 ++ [aS x2.2] ++ (txA x3).drop (0 + [aS x2.2].length))))] ⟨Sub.refl _, Sub.refl _, Sub.refl _, sO, Sub.of_eq (congrArg (AV.rw 7 V) (by simp [crK_len])), trivial⟩ ⟨sB, sB, ⟨_, rfl, SubB.of_eq (by rw [crK_yes hx1 q3 hx2]; simp [txA, List.map_set])⟩, trivial⟩)
 <| fun q3 => have p3 := booF q3; .run 3 [rng .i64 ((k : Int) + 1)] ⟨rng64 (by omega) (by omega), trivial⟩ <|
 .bk L1 (k, V) ((k + 1), V) ⟨by omega, by omega⟩ (show d.w.length - (k + 1) < d.w.length - k from (by omega)) [(6, aI ((k : Int) + 1)), (5, .rw 7 V ((crK d.kept d.w keep k).length))] [(7, .row V 9 1 ((crK d.kept d.w keep k).map txA))] ⟨Sub.refl _, Sub.refl _, Sub.refl _, sO, Sub.of_eq (congrArg (AV.rw 7 V) (by simp [crK_len])), trivial⟩ ⟨sB, sB, ⟨_, rfl, SubB.of_eq (by rw [crK_no hx1 q3])⟩, trivial⟩)
 <| fun p2 => .u 3 [b2] <|
 .frz 7 [4] [4] [V = V, (crK d.kept d.w keep k).length = ((crK d.kept d.w keep k).map txA).length] ⟨rfl, (by first | rfl | (simp; done) | (simp; omega)), trivial⟩ <|
 .f (.agg (dskA (crD d keep))) [b2] (.agg [.sl 1 false ((crK d.kept d.w keep k).map txA), aN, aB false]) (by exact Sub.aggs ⟨Sub.of_eq (congrArg (fun m => AV.sl 1 false ((crK d.kept d.w keep m).map txA)) (by show k = min _ _; omega)), Sub.nil _ _, Sub.refl _, trivial⟩))
 <| fun p1 => .r 5 <| .u 3 [b2] <|
 .frz 7 [4] [4] [V = V, (crK d.kept d.w keep k).length = ((crK d.kept d.w keep k).map txA).length] ⟨rfl, (by first | rfl | (simp; done) | (simp; omega)), trivial⟩ <|
 .f (.agg (dskA (crD d keep))) [b2] (.agg [.sl 1 false ((crK d.kept d.w keep k).map txA), aN, aB false]) (by exact Sub.aggs ⟨Sub.of_eq (congrArg (fun m => AV.sl 1 false ((crK d.kept d.w keep m).map txA)) (by show k = min _ _; omega)), Sub.nil _ _, Sub.refl _, trivial⟩)) a1.1 a1.2 ha1)
end Go.Proofs.YtlcepboedifniaaGreatDoor
