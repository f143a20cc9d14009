/- name.place, name.Enter. dirs.enter, Add (its closure turns a box of its caller's). dirs.Add. dirs.full, Take where it finds nothing; a new tree; the example. -/
import Derived.Test.YtkhnialfkndiiaaGreatMrgQ
import Derived.Test.YtkhnialfkndiiaaGreatMrgM
import Derived.Test.YtkhnialfkndiiaaGreatMrgN
set_option linter.unusedVariables false
set_option linter.unusedSimpArgs false
namespace Go.Proofs.YtkhnialfkndiiaaGreat
open Go Go.RowKit Copyhold
open Copyhold.Name in
theorem nplace_spec (l : List Ent) (s : Txt) (hl : l.length ≤ 1000000) (hr : Srt (lI l)) : FSpec Tryz.prog 99 [.sl 2 false (l.map entA), aS s] (.tup [aI (pos (lI l) s : Int), aB (isB l s)]) := fspec_plain (tup2_ra _ _) fun D w vs h => by
  obtain ⟨u, v, rfl, hu, hv⟩ := RaAll.two h
  cases hv
  obtain ⟨A, c, rfl, he⟩ := ents_of_ra hu
  exact (name_place (lI l) s A c w he (by simp [lI]; omega) hr)
def posI (l : List Ent) (s : Txt) : Nat := Name.pos (lI l) s
theorem posI_le (l : List Ent) (s : Txt) : posI l s ≤ l.length := by
  have := Name.pos_le (lI l) s
  have h : (lI l).length = l.length := by simp [lI]
  unfold posI; omega
noncomputable def entE (l : List Ent) (s : Txt) (n : Int) : Int := if (checkE s != 0) = true then 10 else if n < 1 then 1 else if isB l s = true then 7 else if (l.length : Int) ≥ 256 then 12 else 0
noncomputable def entL (l : List Ent) (s : Txt) (n : Int) : List Ent := if entE l s n = 0 then l.take (posI l s) ++ ⟨s, n⟩ :: l.drop (posI l s) else l
set_option maxRecDepth 100000 in
set_option maxHeartbeats 4000000 in
theorem enter_spec (l : List Ent) (s : Txt) (n : Int) (hl : l.length ≤ 256) (hr : Name.Srt (lI l)) (hs : s.length ≤ 1000000) (hn : I64 n) : FSpec Tryz.prog 142 [.sl 2 false (l.map entA), aS s, aI n] (.tup [.sl 2 false ((entL l s n).map entA), aI (entE l s n)]) := by
  have hn1 := hn.1
  exact spec_vc (F := Tryz.f142) 400 (
 .r 2 <| .r 2 <| .call (nplace_spec l s (by omega) hr) <|
 .r 5 <| .r 1 <| .r 1 <| .call (check_spec s (by omega)) <|
 .r 2 <| .br 18 ((checkE s) != 0) (fun q1 => have p1 := bneT q1; .r 1 <| .r 2 <| .is 32 (show (10 != 0) = true from rfl) <| .r 4 <| .fin (x := .tup [.sl 2 false (l.map entA), aI 10]) (r := .tup [.sl 2 false ((entL l s n).map entA), aI (entE l s n)]) [] trivial (by
    have e : entE l s n = 10 := by
      unfold entE
      rw [if_pos q1]
    have e2 : entL l s n = l := if_neg (by omega)
    rw [e, e2]
    exact Sub.tups ⟨by first | exact Sub.refl _ | exact Sub.loose _ _ _, Sub.refl _, trivial⟩))
 <| fun q1 => have p1 := bneF q1; .r 3 <| .br 22 (decide (n < 1)) (fun q2 => have p2 := decT q2; .r 1 <| .r 2 <| .is 32 (show (1 != 0) = true from rfl) <| .r 4 <| .fin (x := .tup [.sl 2 false (l.map entA), aI 1]) (r := .tup [.sl 2 false ((entL l s n).map entA), aI (entE l s n)]) [] trivial (by
    have e : entE l s n = 1 := by
      unfold entE
      rw [if_neg (by rw [q1]; decide)]
      rw [if_pos (by omega)]
    have e2 : entL l s n = l := if_neg (by omega)
    rw [e, e2]
    exact Sub.tups ⟨by first | exact Sub.refl _ | exact Sub.loose _ _ _, Sub.refl _, trivial⟩))
 <| fun q2 => have p2 := decF q2; .r 2 <| .br 25 (isB l s) (fun q3 => have p3 := booT q3; .r 1 <| .r 2 <| .is 32 (show (7 != 0) = true from rfl) <| .r 4 <| .fin (x := .tup [.sl 2 false (l.map entA), aI 7]) (r := .tup [.sl 2 false ((entL l s n).map entA), aI (entE l s n)]) [] trivial (by
    have e : entE l s n = 7 := by
      unfold entE
      rw [if_neg (by rw [q1]; decide)]
      rw [if_neg (by omega)]
      rw [if_pos q3]
    have e2 : entL l s n = l := if_neg (by omega)
    rw [e, e2]
    exact Sub.tups ⟨by first | exact Sub.refl _ | exact Sub.loose _ _ _, Sub.refl _, trivial⟩))
 <| fun q3 => have p3 := booF q3; .r 2 <| .val 29 (show (aI ((l.map entA).length : Int) : AV) = aI (l.length : Int) from by rw [List.length_map]) <| .r 2 <| .br 27 (decide ((l.length : Int) ≥ 256)) (fun q4 => have p4 := decT q4; .r 1 <| .r 2 <| .is 32 (show (12 != 0) = true from rfl) <| .r 4 <| .fin (x := .tup [.sl 2 false (l.map entA), aI 12]) (r := .tup [.sl 2 false ((entL l s n).map entA), aI (entE l s n)]) [] trivial (by
    have e : entE l s n = 12 := by
      unfold entE
      rw [if_neg (by rw [q1]; decide)]
      rw [if_neg (by omega)]
      rw [if_neg (by rw [q3]; decide)]
      rw [if_pos (by omega)]
    have e2 : entL l s n = l := if_neg (by omega)
    rw [e, e2]
    exact Sub.tups ⟨by first | exact Sub.refl _ | exact Sub.loose _ _ _, Sub.refl _, trivial⟩))
 <| fun q4 => have p4 := decF q4; .r 2 <| .is 32 (show (0 != 0) = false from rfl) <| .r 2 <| .val 36 (show (aI ((l.map entA).length : Int) : AV) = aI (l.length : Int) from by rw [List.length_map]) <| .run 1 [rng .i64 ((l.length : Int) + 1)] ⟨rng64 (by omega) (by omega), trivial⟩ <|
 .mk0 24 (l.length + 1) (show (l.length : Int) + 1 = ((l.length + 1 : Nat) : Int) from by omega) (by have hq := posI_le l s; simp <;> omega) (by have hq := posI_le l s; simp <;> omega) fun V1 =>
 .r 1 <| .r 3 <| .slc 2 false (l.map entA) none (some (posI l s : Int)) none 0 (posI l s) false (.inl ⟨rfl, rfl⟩) (.inr rfl) (.inl ⟨rfl, fun h => by cases h⟩) (by have hq := posI_le l s; first | omega | (rw [List.length_map]; omega) | (simp <;> omega)) (by have hq := posI_le l s; first | omega | (rw [List.length_map]; omega) | (simp <;> omega)) <|
 .app 24 V1 ([] : List (List AV)) (((l.map entA).take (posI l s)).drop 0) (by have hq := posI_le l s; simp <;> omega) (by have hq := posI_le l s; simp <;> omega) fun V2 =>
 .r 1 <| .r 5 <| .app 24 V2 (([] : List (List AV)) ++ (((l.map entA).take (posI l s)).drop 0)) ([[aS s, aI n]]) (by have hq := posI_le l s; simp <;> omega) (by have hq := posI_le l s; simp <;> omega) fun V3 =>
 .r 1 <| .r 3 <| .slc 2 false (l.map entA) (some (posI l s : Int)) none none (posI l s) ((l.map entA).length) false (.inr rfl) (.inl ⟨rfl, rfl⟩) (.inl ⟨rfl, fun h => by cases h⟩) (by have hq := posI_le l s; first | omega | (rw [List.length_map]; omega) | (simp <;> omega)) (by have hq := posI_le l s; first | omega | (rw [List.length_map]; omega) | (simp <;> omega)) <|
 .app 24 V3 ((([] : List (List AV)) ++ (((l.map entA).take (posI l s)).drop 0)) ++ ([[aS s, aI n]])) (((l.map entA).take ((l.map entA).length)).drop (posI l s)) (by have hq := posI_le l s; simp <;> omega) (by have hq := posI_le l s; simp <;> omega) fun V4 =>
 .r 2 <| .frz 38 [6, 7] [] [V4 = V4, ((([] : List (List AV)) ++ (((l.map entA).take (posI l s)).drop 0)) ++ ([[aS s, aI n]])).length + (((l.map entA).take ((l.map entA).length)).drop (posI l s)).length = (((([] : List (List AV)) ++ (((l.map entA).take (posI l s)).drop 0)) ++ ([[aS s, aI n]])) ++ (((l.map entA).take ((l.map entA).length)).drop (posI l s))).length] ⟨rfl, (by first | rfl | (simp; done) | (simp; omega)), trivial⟩ <|
 .fin (x := .tup [.sl 2 false (((([] : List (List AV)) ++ (((l.map entA).take (posI l s)).drop 0)) ++ ([[aS s, aI n]])) ++ (((l.map entA).take ((l.map entA).length)).drop (posI l s))), aI 0]) (r := .tup [.sl 2 false ((entL l s n).map entA), aI (entE l s n)]) [] trivial (by
    have e : entE l s n = 0 := by
      unfold entE
      rw [if_neg (by rw [q1]; decide)]
      rw [if_neg (by omega)]
      rw [if_neg (by rw [q3]; decide)]
      rw [if_neg (by omega)]
    have e2 : entL l s n = l.take (posI l s) ++ ⟨s, n⟩ :: l.drop (posI l s) := if_pos e
    rw [e, e2]
    exact Sub.tups ⟨Sub.of_eq (congrArg (AV.sl 2 false) (by simp [entA, List.map_take, List.map_drop, take_all])), Sub.refl _, trivial⟩)) Tryz.func142 rfl (by kernel_rfl) (by kernel_rfl)
end Go.Proofs.YtkhnialfkndiiaaGreat

set_option linter.unusedVariables false
set_option linter.unusedSimpArgs false
namespace Go.Proofs.YtkhnialfkndiiaaGreat
open Go Go.RowKit Copyhold
def withL (n : Nod) (l : List Ent) : Nod := ⟨n.ino, n.kind, n.links, n.text, l⟩
noncomputable def enterF (f : Fsy) (d : Int) (s : Txt) (i : Int) : Fsy := putF f (withL (findN f d) (entL (findN f d).l s i))
theorem find_I64 {f : Fsy} (okf : OkF f) (hp : rowsP f) (i : Int) : I64 (findN f i).ino ∧ (findN f i).ino < 9223372036854775807 := by
  refine ⟨(findN_ok okf i).1, ?_⟩
  by_cases h : findB f i = true
  · have := ((rowsP_iff.1 hp).2.2.1 _ (find_mem h)).2
    have := okf.1.2
    omega
  · have h' : findB f i = false := by simpa using h
    unfold findN findB at *
    rw [List.find?_eq_none.2 fun x hx => by simpa using List.any_eq_false.1 h' x hx]
    decide
theorem find_srt {f : Fsy} (h : rowsP f) (i : Int) : Name.Srt (lI (findN f i).l) ∧ (findN f i).l.length ≤ 256 := by
  by_cases hb : findB f i = true
  · exact node_srt ((rowsP_iff.1 h).2.2.1 _ (find_mem hb)).1
  · have h' : findB f i = false := by simpa using hb
    unfold findN findB at *
    rw [List.find?_eq_none.2 fun x hx => by simpa using List.any_eq_false.1 h' x hx]
    exact ⟨List.Pairwise.nil, by decide⟩
set_option maxRecDepth 100000 in
set_option maxHeartbeats 4000000 in
theorem denter_spec (f : Fsy) (dir : Int) (s : Txt) (ino : Int) (okf : OkF f) (hp : rowsP f) (hs : s.length ≤ 1000000) (hi : I64 ino) : FSpec Tryz.prog 120 [.agg [.sl 5 false (f.l.map nodA), aI f.next], aI dir, aS s, aI ino] (.agg (fsyA (enterF f dir s ino))) := by
  have hl := hp.1
  have hr := rows_rise hp
  exact spec_vc (F := Tryz.f120) 400 (
 .new fun b1 => .new fun b2 => .run 2 [b1 = b1] ⟨rfl, trivial⟩ <|
 .call (tfind_spec f dir (by omega) hr) <|
 .r 3 <| .new fun b3 => .run 2 [b3 = b3] ⟨rfl, trivial⟩ <|
 .run 4 [b3 = b3] ⟨rfl, trivial⟩ <|
 .call (enter_spec ((findN f dir).l) s ino (find_srt hp dir).2 (find_srt hp dir).1 (by omega) hi) <|
 .run 5 [b3 = b3] ⟨rfl, trivial⟩ <|
 .run 2 [b1 = b1, b3 = b3] ⟨rfl, rfl, trivial⟩ <|
 .callS (args0 := [.agg [.sl 5 false (f.l.map nodA), aI f.next], .agg [aI ((findN f dir).ino), aI ((findN f dir).kind), aI ((findN f dir).links), aS ((findN f dir).text), .sl 2 false ((entL ((findN f dir).l) s ino).map entA)]]) (args := [.agg [.sl 5 false (f.l.map nodA), aI f.next], .agg [aI ((withL (findN f dir) (entL (findN f dir).l s ino)).ino), aI ((withL (findN f dir) (entL (findN f dir).l s ino)).kind), aI ((withL (findN f dir) (entL (findN f dir).l s ino)).links), aS ((withL (findN f dir) (entL (findN f dir).l s ino)).text), .sl 2 false ((withL (findN f dir) (entL (findN f dir).l s ino)).l.map entA)]]) ⟨Sub.refl _, Sub.refl _, trivial⟩ (put_spec f (withL (findN f dir) (entL (findN f dir).l s ino)) (find_I64 okf hp dir) (by omega) hr) <|
 .run 1 [b2 = b2] ⟨rfl, trivial⟩ <|
 .fin (x := .agg [.sl 5 false ((putF f (withL (findN f dir) (entL (findN f dir).l s ino))).l.map nodA), aI ((putF f (withL (findN f dir) (entL (findN f dir).l s ino))).next)]) (r := .agg (fsyA (enterF f dir s ino))) [b2 = b2] ⟨rfl, trivial⟩ (by exact Sub.refl _)) Tryz.func120 rfl (by kernel_rfl) (by kernel_rfl)
theorem enter_le (f : Fsy) (d : Int) (s : Txt) (i : Int) : (enterF f d s i).l.length ≤ f.l.length + 1 := putN_le _ _
theorem enter_rise {f : Fsy} (h : rowsP f) (d : Int) (s : Txt) (i : Int) : RiseN (enterF f d s i).l := put_rise (rows_rise h)
noncomputable def addF (f : Fsy) (d : Int) (s : Txt) (n : Nod) : Fsy := putF (enterF f d s n.ino) (withL n [])
set_option maxRecDepth 100000 in
set_option maxHeartbeats 4000000 in
theorem add1_spec (f : Fsy) (dir : Int) (s : Txt) (n : Nod) (b : Nat) (okf : OkF f) (hp : rowsP f) (hs : s.length ≤ 1000000) (hn : I64 n.ino ∧ n.ino < 9223372036854775807) : LSpec Tryz.prog 138 [.ptr 7 b 0, .dptr [.sl 5 false (f.l.map nodA), aI f.next], .dptr [aI dir], .dptr [aS s]] (.box b 59 [aI n.ino, aI n.kind, aI n.links, aS n.text, .sl 2 false (n.l.map entA)]) (.agg (fsyA (addF f dir s n))) := by
  have hl := hp.1
  have hr := rows_rise hp
  exact lspec_vc (q := 7) (F := Tryz.f138) 400 (
 .new fun b1 => .run 2 [b = b] ⟨rfl, trivial⟩ <|
 .ord [0, 1, 2, 3, 4, 6, 5, 7, 8] <| .run 6 [b = b, b = b] ⟨rfl, rfl, trivial⟩ <|
 .call (denter_spec f dir s n.ino okf hp (by omega) hn.1) <|
 .callS (args0 := [.agg [.sl 5 false ((enterF f dir s n.ino).l.map nodA), aI ((enterF f dir s n.ino).next)], .agg [aI n.ino, aI n.kind, aI n.links, aS n.text, aN]]) (args := [.agg [.sl 5 false ((enterF f dir s n.ino).l.map nodA), aI ((enterF f dir s n.ino).next)], .agg [aI ((withL n []).ino), aI ((withL n []).kind), aI ((withL n []).links), aS ((withL n []).text), .sl 2 false ((withL n []).l.map entA)]]) ⟨Sub.refl _, Sub.aggs ⟨Sub.refl _, Sub.refl _, Sub.refl _, Sub.refl _, Sub.nil _ _, trivial⟩, trivial⟩ (put_spec (enterF f dir s n.ino) (withL n []) hn (by have := enter_le f dir s n.ino; omega) (enter_rise hp dir s n.ino)) <|
 .run 1 [b1 = b1] ⟨rfl, trivial⟩ <|
 .fin (x := .agg [.sl 5 false ((putF (enterF f dir s n.ino) (withL n [])).l.map nodA), aI ((putF (enterF f dir s n.ino) (withL n [])).next)]) (r := .agg (fsyA (addF f dir s n))) [b1 = b1] ⟨rfl, trivial⟩ (by exact Sub.refl _)) Tryz.func138 rfl (by kernel_rfl) (by kernel_rfl)
set_option maxRecDepth 100000 in
set_option maxHeartbeats 4000000 in
theorem unless1_spec (e : Int) (f : Fsy) (dir : Int) (s : Txt) (n : Nod) (b : Nat) (okf : OkF f) (hp : rowsP f) (hs : s.length ≤ 1000000) (hn : I64 n.ino ∧ n.ino < 9223372036854775807) : LSpec Tryz.prog 118 [.agg [.sl 5 false (f.l.map nodA), aI f.next], aI e, .clo 138 [.ptr 7 b 0, .dptr [.sl 5 false (f.l.map nodA), aI f.next], .dptr [aI dir], .dptr [aS s]]] (.box b 59 [aI n.ino, aI n.kind, aI n.links, aS n.text, .sl 2 false (n.l.map entA)]) (.tup [.agg (fsyA (if e = 0 then addF f dir s n else f)), aI e]) := by
  exact lspec_vc (q := 7) (F := Tryz.f118) 400 (
 .new fun b1 => .new fun b2 => .r 1 <| .r 2 <| .br 9 (e != 0) (fun q1 => have p1 := bneT q1; .run 4 [b1 = b1, b2 = b2] ⟨rfl, rfl, trivial⟩ <|
 .fin (x := .tup [.agg [.sl 5 false (f.l.map nodA), aI f.next], aI e]) (r := .tup [.agg (fsyA (if e = 0 then addF f dir s n else f)), aI e]) [b2 = b2] ⟨rfl, trivial⟩ (by
    rw [if_neg (show ¬ e = 0 from by omega)]
    exact Sub.refl _))
 <| fun q1 => have p1 := bneF q1; .lent 1 <| .r 1 <| .lop (lcR Tryz.prog 7) ((138, [.ptr 7 b 0, .dptr [.sl 5 false (f.l.map nodA), aI f.next], .dptr [aI dir], .dptr [aS s]], some 13), .box b 59 [aI n.ino, aI n.kind, aI n.links, aS n.text, .sl 2 false (n.l.map entA)]) (fun (_ : Unit) σ => (σ.put (some 13) (.agg [.sl 5 false ((addF f dir s n).l.map nodA), aI ((addF f dir s n).next)])).setB 7 gone) (rule_lent (args' := [.ptr 7 b 0, .dptr [.sl 5 false (f.l.map nodA), aI f.next], .dptr [aI dir], .dptr [aS s]]) ⟨Sub.refl _, Sub.refl _, Sub.refl _, Sub.refl _, trivial⟩ (add1_spec f dir s n b okf hp hs hn)) fun _ =>
 .run 2 [b2 = b2] ⟨rfl, trivial⟩ <|
 .fin (x := .tup [.agg [.sl 5 false ((addF f dir s n).l.map nodA), aI ((addF f dir s n).next)], aI 0]) (r := .tup [.agg (fsyA (if e = 0 then addF f dir s n else f)), aI e]) [b2 = b2] ⟨rfl, trivial⟩ (by
    rw [if_pos (show e = 0 from by omega), show e = 0 from by omega]
    exact Sub.refl _)) Tryz.func118 rfl (by kernel_rfl) (by kernel_rfl)
end Go.Proofs.YtkhnialfkndiiaaGreat

set_option linter.unusedVariables false
set_option linter.unusedSimpArgs false
namespace Go.Proofs.YtkhnialfkndiiaaGreat
open Go Go.RowKit Copyhold
theorem first_lit5 {t : Bool} (a b c d e : Int) : Sub (.sl 1 t [[aI a], [aI b], [aI c], [aI d], [aI e]]) (.sl 1 false ([a, b, c, d, e].map intA)) := Sub.loose _ _ _
def addN (f : Fsy) (n : Nod) : Nod := ⟨f.next, n.kind, 1, n.text, n.l⟩
noncomputable def addErr (f : Fsy) (d : Int) (s : Txt) (n : Nod) : Int := firstE [dirE f d, checkE s, whenE (isB (dirN f d).l s) 7, whenE (decide ((f.l.length : Int) ≥ 256) || decide (((dirN f d).l.length : Int) ≥ 256)) 12, whenE ((!(dP (nodP (addN f n)))) || decide ((n.l.length : Int) > 0)) 1]
theorem addN_ok {f : Fsy} {n : Nod} (okf : OkF f) (okn : OkN n) : OkN (addN f n) := ⟨okf.1, okn.2.1, ⟨by show (_ : Int) ≤ 1; omega, by show (1 : Int) ≤ _; omega⟩, okn.2.2.2.1, okn.2.2.2.2.1, okn.2.2.2.2.2⟩
set_option maxRecDepth 100000 in
set_option maxHeartbeats 4000000 in
theorem add_spec (f : Fsy) (dir : Int) (s : Txt) (n : Nod) (okf : OkF f) (hp : rowsP f) (hs : s.length ≤ 1000000) (okn : OkN n) (hx : f.next < 9223372036854775807) : FSpec Tryz.prog 113 [.agg [.sl 5 false (f.l.map nodA), aI f.next], aI dir, aS s, .agg [aI n.ino, aI n.kind, aI n.links, aS n.text, .sl 2 false (n.l.map entA)]] (.tup [.agg (fsyA (if addErr f dir s n = 0 then addF f dir s (addN f n) else f)), aI (addErr f dir s n)]) := by
  have hl := hp.1
  have hr := rows_rise hp
  exact spec_vc (F := Tryz.f113) 400 (
 .new fun b1 => .new fun b2 => .new fun b3 => .new fun b4 => .new fun b5 => .r 1 <| .run 2 [b1 = b1, b2 = b2] ⟨rfl, rfl, trivial⟩ <|
 .call (dir_spec f dir hp) <|
 .r 3 <| .new fun b6 => .run 2 [b6 = b6] ⟨rfl, trivial⟩ <|
 .run 3 [b6 = b6, b3 = b3] ⟨rfl, rfl, trivial⟩ <|
 .call (nfind_spec ((dirN f dir).l) s (by have := (dir_srt hp dir).2; omega) (dir_srt hp dir).1) <|
 .r 5 <| .run 6 [b1 = b1, b4 = b4, b4 = b4] ⟨rfl, rfl, rfl, trivial⟩ <|
 .ord [0, 1, 3, 5, 6, 7, 8, 16, 2, 4, 9, 10, 11, 12, 13, 14, 15, 17, 18, 19, 20, 21, 22, 23, 24, 25, 26, 27, 28] <| .run 6 [b3 = b3, b1 = b1] ⟨rfl, rfl, trivial⟩ <|
 .val 38 (show (aI ((f.l.map nodA).length : Int) : AV) = aI (f.l.length : Int) from by rw [List.length_map]) <| .run 2 [b4 = b4] ⟨rfl, trivial⟩ <|
 .call (check_spec s (by omega)) <|
 .call (when_spec (isB ((dirN f dir).l) s) 7) <|
 .r 1 <| .br 40 (decide ((f.l.length : Int) ≥ 256)) (fun q1 => have p1 := decT q1; .r 5 <| .call (when_spec true 12) <|
 .callS (args0 := [.agg [aI f.next, aI n.kind, aI 1, aS n.text, .sl 2 false (n.l.map entA)]]) (args := [.agg [aI ((addN f n).ino), aI ((addN f n).kind), aI ((addN f n).links), aS ((addN f n).text), .sl 2 false ((addN f n).l.map entA)]]) ⟨Sub.refl _, trivial⟩ (nright_spec (addN f n) (addN_ok okf okn)) <|
 .r 2 <| .br 50 (!(dP (nodP (addN f n)))) (fun q2 => have q2 := notT q2; have p2 := booF q2; .r 5 <| .call (when_spec true 1) <|
 .r 1 <| .callS (args0 := [.sl 1 true ([[aI (dirE f dir)], [aI (checkE s)], [aI (whenE (isB ((dirN f dir).l) s) 7)], [aI (whenE true 12)], [aI (whenE true 1)]])]) (args := [.sl 1 false ([(dirE f dir), (checkE s), (whenE (isB ((dirN f dir).l) s) 7), (whenE true 12), (whenE true 1)].map intA)]) ⟨first_lit5 (dirE f dir) (checkE s) (whenE (isB ((dirN f dir).l) s) 7) (whenE true 12) (whenE true 1), trivial⟩ (first_spec [(dirE f dir), (checkE s), (whenE (isB ((dirN f dir).l) s) 7), (whenE true 12), (whenE true 1)] (by simp)) <|
 .r 1 <| .frz 4 [4, 5, 6, 7, 8, 9, 11, 40, 45, 50, 55] [5, 6, 7, 8] [b1 = b1] ⟨rfl, trivial⟩ <|
 .frz 5 [4, 5, 6, 7, 8, 9, 11, 40, 45, 50, 55] [6, 7, 8] [b2 = b2] ⟨rfl, trivial⟩ <|
 .frz 6 [4, 5, 6, 7, 8, 9, 11, 40, 45, 50, 55] [7, 8] [b3 = b3] ⟨rfl, trivial⟩ <|
 .lent 3 <| .r 3 <| .lop (lcR Tryz.prog 7) ((118, [.agg [.sl 5 false (f.l.map nodA), aI f.next], aI (firstE [(dirE f dir), (checkE s), (whenE (isB ((dirN f dir).l) s) 7), (whenE true 12), (whenE true 1)]), .clo 138 [.ptr 7 b4 0, .dptr [.sl 5 false (f.l.map nodA), aI f.next], .dptr [aI dir], .dptr [aS s]]], some 62), .box b4 59 [aI f.next, aI n.kind, aI 1, aS n.text, .sl 2 false (n.l.map entA)]) (fun (_ : Unit) σ => (σ.put (some 62) (.tup [.agg [.sl 5 false ((if firstE [(dirE f dir), (checkE s), (whenE (isB ((dirN f dir).l) s) 7), (whenE true 12), (whenE true 1)] = 0 then addF f dir s (addN f n) else f).l.map nodA), aI ((if firstE [(dirE f dir), (checkE s), (whenE (isB ((dirN f dir).l) s) 7), (whenE true 12), (whenE true 1)] = 0 then addF f dir s (addN f n) else f).next)], aI (firstE [(dirE f dir), (checkE s), (whenE (isB ((dirN f dir).l) s) 7), (whenE true 12), (whenE true 1)])])).setB 7 gone) (rule_lent (args' := [.agg [.sl 5 false (f.l.map nodA), aI f.next], aI (firstE [(dirE f dir), (checkE s), (whenE (isB ((dirN f dir).l) s) 7), (whenE true 12), (whenE true 1)]), .clo 138 [.ptr 7 b4 0, .dptr [.sl 5 false (f.l.map nodA), aI f.next], .dptr [aI dir], .dptr [aS s]]]) ⟨Sub.refl _, Sub.refl _, Sub.refl _, trivial⟩ (unless1_spec (firstE [(dirE f dir), (checkE s), (whenE (isB ((dirN f dir).l) s) 7), (whenE true 12), (whenE true 1)]) f dir s (addN f n) b4 okf hp hs ⟨okf.1, hx⟩)) fun _ =>
 .run 4 [b5 = b5] ⟨rfl, trivial⟩ <|
 .fin (x := .tup [.agg [.sl 5 false ((if firstE [(dirE f dir), (checkE s), (whenE (isB ((dirN f dir).l) s) 7), (whenE true 12), (whenE true 1)] = 0 then addF f dir s (addN f n) else f).l.map nodA), aI ((if firstE [(dirE f dir), (checkE s), (whenE (isB ((dirN f dir).l) s) 7), (whenE true 12), (whenE true 1)] = 0 then addF f dir s (addN f n) else f).next)], aI (firstE [(dirE f dir), (checkE s), (whenE (isB ((dirN f dir).l) s) 7), (whenE true 12), (whenE true 1)])]) (r := .tup [.agg (fsyA (if addErr f dir s n = 0 then addF f dir s (addN f n) else f)), aI (addErr f dir s n)]) [b5 = b5] ⟨rfl, trivial⟩ (by
    have e : addErr f dir s n = firstE [(dirE f dir), (checkE s), (whenE (isB ((dirN f dir).l) s) 7), (whenE true 12), (whenE true 1)] := by
      unfold addErr
      simp only [q1, q2, Bool.true_or, Bool.false_or, Bool.not_true, Bool.not_false]
    rw [e]
    exact Sub.refl _))
 <| fun q2 => have q2 := notF q2; have p2 := booT q2; .run 3 [b4 = b4] ⟨rfl, trivial⟩ <|
 .val 53 (show (aI ((n.l.map entA).length : Int) : AV) = aI (n.l.length : Int) from by rw [List.length_map]) <| .r 2 <| .call (when_spec (decide ((n.l.length : Int) > 0)) 1) <|
 .r 1 <| .callS (args0 := [.sl 1 true ([[aI (dirE f dir)], [aI (checkE s)], [aI (whenE (isB ((dirN f dir).l) s) 7)], [aI (whenE true 12)], [aI (whenE (decide ((n.l.length : Int) > 0)) 1)]])]) (args := [.sl 1 false ([(dirE f dir), (checkE s), (whenE (isB ((dirN f dir).l) s) 7), (whenE true 12), (whenE (decide ((n.l.length : Int) > 0)) 1)].map intA)]) ⟨first_lit5 (dirE f dir) (checkE s) (whenE (isB ((dirN f dir).l) s) 7) (whenE true 12) (whenE (decide ((n.l.length : Int) > 0)) 1), trivial⟩ (first_spec [(dirE f dir), (checkE s), (whenE (isB ((dirN f dir).l) s) 7), (whenE true 12), (whenE (decide ((n.l.length : Int) > 0)) 1)] (by simp)) <|
 .r 1 <| .frz 4 [4, 5, 6, 7, 8, 9, 11, 40, 45, 50] [5, 6, 7, 8] [b1 = b1] ⟨rfl, trivial⟩ <|
 .frz 5 [4, 5, 6, 7, 8, 9, 11, 40, 45, 50] [6, 7, 8] [b2 = b2] ⟨rfl, trivial⟩ <|
 .frz 6 [4, 5, 6, 7, 8, 9, 11, 40, 45, 50] [7, 8] [b3 = b3] ⟨rfl, trivial⟩ <|
 .lent 3 <| .r 3 <| .lop (lcR Tryz.prog 7) ((118, [.agg [.sl 5 false (f.l.map nodA), aI f.next], aI (firstE [(dirE f dir), (checkE s), (whenE (isB ((dirN f dir).l) s) 7), (whenE true 12), (whenE (decide ((n.l.length : Int) > 0)) 1)]), .clo 138 [.ptr 7 b4 0, .dptr [.sl 5 false (f.l.map nodA), aI f.next], .dptr [aI dir], .dptr [aS s]]], some 62), .box b4 59 [aI f.next, aI n.kind, aI 1, aS n.text, .sl 2 false (n.l.map entA)]) (fun (_ : Unit) σ => (σ.put (some 62) (.tup [.agg [.sl 5 false ((if firstE [(dirE f dir), (checkE s), (whenE (isB ((dirN f dir).l) s) 7), (whenE true 12), (whenE (decide ((n.l.length : Int) > 0)) 1)] = 0 then addF f dir s (addN f n) else f).l.map nodA), aI ((if firstE [(dirE f dir), (checkE s), (whenE (isB ((dirN f dir).l) s) 7), (whenE true 12), (whenE (decide ((n.l.length : Int) > 0)) 1)] = 0 then addF f dir s (addN f n) else f).next)], aI (firstE [(dirE f dir), (checkE s), (whenE (isB ((dirN f dir).l) s) 7), (whenE true 12), (whenE (decide ((n.l.length : Int) > 0)) 1)])])).setB 7 gone) (rule_lent (args' := [.agg [.sl 5 false (f.l.map nodA), aI f.next], aI (firstE [(dirE f dir), (checkE s), (whenE (isB ((dirN f dir).l) s) 7), (whenE true 12), (whenE (decide ((n.l.length : Int) > 0)) 1)]), .clo 138 [.ptr 7 b4 0, .dptr [.sl 5 false (f.l.map nodA), aI f.next], .dptr [aI dir], .dptr [aS s]]]) ⟨Sub.refl _, Sub.refl _, Sub.refl _, trivial⟩ (unless1_spec (firstE [(dirE f dir), (checkE s), (whenE (isB ((dirN f dir).l) s) 7), (whenE true 12), (whenE (decide ((n.l.length : Int) > 0)) 1)]) f dir s (addN f n) b4 okf hp hs ⟨okf.1, hx⟩)) fun _ =>
 .run 4 [b5 = b5] ⟨rfl, trivial⟩ <|
 .fin (x := .tup [.agg [.sl 5 false ((if firstE [(dirE f dir), (checkE s), (whenE (isB ((dirN f dir).l) s) 7), (whenE true 12), (whenE (decide ((n.l.length : Int) > 0)) 1)] = 0 then addF f dir s (addN f n) else f).l.map nodA), aI ((if firstE [(dirE f dir), (checkE s), (whenE (isB ((dirN f dir).l) s) 7), (whenE true 12), (whenE (decide ((n.l.length : Int) > 0)) 1)] = 0 then addF f dir s (addN f n) else f).next)], aI (firstE [(dirE f dir), (checkE s), (whenE (isB ((dirN f dir).l) s) 7), (whenE true 12), (whenE (decide ((n.l.length : Int) > 0)) 1)])]) (r := .tup [.agg (fsyA (if addErr f dir s n = 0 then addF f dir s (addN f n) else f)), aI (addErr f dir s n)]) [b5 = b5] ⟨rfl, trivial⟩ (by
    have e : addErr f dir s n = firstE [(dirE f dir), (checkE s), (whenE (isB ((dirN f dir).l) s) 7), (whenE true 12), (whenE (decide ((n.l.length : Int) > 0)) 1)] := by
      unfold addErr
      simp only [q1, q2, Bool.true_or, Bool.false_or, Bool.not_true, Bool.not_false]
    rw [e]
    exact Sub.refl _))
 <| fun q1 => have p1 := decF q1; .run 3 [b6 = b6] ⟨rfl, trivial⟩ <|
 .val 43 (show (aI (((dirN f dir).l.map entA).length : Int) : AV) = aI (((dirN f dir).l).length : Int) from by rw [List.length_map]) <| .r 2 <| .call (when_spec (decide ((((dirN f dir).l).length : Int) ≥ 256)) 12) <|
 .callS (args0 := [.agg [aI f.next, aI n.kind, aI 1, aS n.text, .sl 2 false (n.l.map entA)]]) (args := [.agg [aI ((addN f n).ino), aI ((addN f n).kind), aI ((addN f n).links), aS ((addN f n).text), .sl 2 false ((addN f n).l.map entA)]]) ⟨Sub.refl _, trivial⟩ (nright_spec (addN f n) (addN_ok okf okn)) <|
 .r 2 <| .br 50 (!(dP (nodP (addN f n)))) (fun q3 => have q3 := notT q3; have p3 := booF q3; .r 5 <| .call (when_spec true 1) <|
 .r 1 <| .callS (args0 := [.sl 1 true ([[aI (dirE f dir)], [aI (checkE s)], [aI (whenE (isB ((dirN f dir).l) s) 7)], [aI (whenE (decide ((((dirN f dir).l).length : Int) ≥ 256)) 12)], [aI (whenE true 1)]])]) (args := [.sl 1 false ([(dirE f dir), (checkE s), (whenE (isB ((dirN f dir).l) s) 7), (whenE (decide ((((dirN f dir).l).length : Int) ≥ 256)) 12), (whenE true 1)].map intA)]) ⟨first_lit5 (dirE f dir) (checkE s) (whenE (isB ((dirN f dir).l) s) 7) (whenE (decide ((((dirN f dir).l).length : Int) ≥ 256)) 12) (whenE true 1), trivial⟩ (first_spec [(dirE f dir), (checkE s), (whenE (isB ((dirN f dir).l) s) 7), (whenE (decide ((((dirN f dir).l).length : Int) ≥ 256)) 12), (whenE true 1)] (by simp)) <|
 .r 1 <| .frz 4 [4, 5, 6, 7, 8, 9, 11, 40, 50, 55] [5, 6, 7, 8] [b1 = b1] ⟨rfl, trivial⟩ <|
 .frz 5 [4, 5, 6, 7, 8, 9, 11, 40, 50, 55] [6, 7, 8] [b2 = b2] ⟨rfl, trivial⟩ <|
 .frz 6 [4, 5, 6, 7, 8, 9, 11, 40, 50, 55] [7, 8] [b3 = b3] ⟨rfl, trivial⟩ <|
 .lent 3 <| .r 3 <| .lop (lcR Tryz.prog 7) ((118, [.agg [.sl 5 false (f.l.map nodA), aI f.next], aI (firstE [(dirE f dir), (checkE s), (whenE (isB ((dirN f dir).l) s) 7), (whenE (decide ((((dirN f dir).l).length : Int) ≥ 256)) 12), (whenE true 1)]), .clo 138 [.ptr 7 b4 0, .dptr [.sl 5 false (f.l.map nodA), aI f.next], .dptr [aI dir], .dptr [aS s]]], some 62), .box b4 59 [aI f.next, aI n.kind, aI 1, aS n.text, .sl 2 false (n.l.map entA)]) (fun (_ : Unit) σ => (σ.put (some 62) (.tup [.agg [.sl 5 false ((if firstE [(dirE f dir), (checkE s), (whenE (isB ((dirN f dir).l) s) 7), (whenE (decide ((((dirN f dir).l).length : Int) ≥ 256)) 12), (whenE true 1)] = 0 then addF f dir s (addN f n) else f).l.map nodA), aI ((if firstE [(dirE f dir), (checkE s), (whenE (isB ((dirN f dir).l) s) 7), (whenE (decide ((((dirN f dir).l).length : Int) ≥ 256)) 12), (whenE true 1)] = 0 then addF f dir s (addN f n) else f).next)], aI (firstE [(dirE f dir), (checkE s), (whenE (isB ((dirN f dir).l) s) 7), (whenE (decide ((((dirN f dir).l).length : Int) ≥ 256)) 12), (whenE true 1)])])).setB 7 gone) (rule_lent (args' := [.agg [.sl 5 false (f.l.map nodA), aI f.next], aI (firstE [(dirE f dir), (checkE s), (whenE (isB ((dirN f dir).l) s) 7), (whenE (decide ((((dirN f dir).l).length : Int) ≥ 256)) 12), (whenE true 1)]), .clo 138 [.ptr 7 b4 0, .dptr [.sl 5 false (f.l.map nodA), aI f.next], .dptr [aI dir], .dptr [aS s]]]) ⟨Sub.refl _, Sub.refl _, Sub.refl _, trivial⟩ (unless1_spec (firstE [(dirE f dir), (checkE s), (whenE (isB ((dirN f dir).l) s) 7), (whenE (decide ((((dirN f dir).l).length : Int) ≥ 256)) 12), (whenE true 1)]) f dir s (addN f n) b4 okf hp hs ⟨okf.1, hx⟩)) fun _ =>
 .run 4 [b5 = b5] ⟨rfl, trivial⟩ <|
 .fin (x := .tup [.agg [.sl 5 false ((if firstE [(dirE f dir), (checkE s), (whenE (isB ((dirN f dir).l) s) 7), (whenE (decide ((((dirN f dir).l).length : Int) ≥ 256)) 12), (whenE true 1)] = 0 then addF f dir s (addN f n) else f).l.map nodA), aI ((if firstE [(dirE f dir), (checkE s), (whenE (isB ((dirN f dir).l) s) 7), (whenE (decide ((((dirN f dir).l).length : Int) ≥ 256)) 12), (whenE true 1)] = 0 then addF f dir s (addN f n) else f).next)], aI (firstE [(dirE f dir), (checkE s), (whenE (isB ((dirN f dir).l) s) 7), (whenE (decide ((((dirN f dir).l).length : Int) ≥ 256)) 12), (whenE true 1)])]) (r := .tup [.agg (fsyA (if addErr f dir s n = 0 then addF f dir s (addN f n) else f)), aI (addErr f dir s n)]) [b5 = b5] ⟨rfl, trivial⟩ (by
    have e : addErr f dir s n = firstE [(dirE f dir), (checkE s), (whenE (isB ((dirN f dir).l) s) 7), (whenE (decide ((((dirN f dir).l).length : Int) ≥ 256)) 12), (whenE true 1)] := by
      unfold addErr
      simp only [q1, q3, Bool.true_or, Bool.false_or, Bool.not_true, Bool.not_false]
    rw [e]
    exact Sub.refl _))
 <| fun q3 => have q3 := notF q3; have p3 := booT q3; .run 3 [b4 = b4] ⟨rfl, trivial⟩ <|
 .val 53 (show (aI ((n.l.map entA).length : Int) : AV) = aI (n.l.length : Int) from by rw [List.length_map]) <| .r 2 <| .call (when_spec (decide ((n.l.length : Int) > 0)) 1) <|
 .r 1 <| .callS (args0 := [.sl 1 true ([[aI (dirE f dir)], [aI (checkE s)], [aI (whenE (isB ((dirN f dir).l) s) 7)], [aI (whenE (decide ((((dirN f dir).l).length : Int) ≥ 256)) 12)], [aI (whenE (decide ((n.l.length : Int) > 0)) 1)]])]) (args := [.sl 1 false ([(dirE f dir), (checkE s), (whenE (isB ((dirN f dir).l) s) 7), (whenE (decide ((((dirN f dir).l).length : Int) ≥ 256)) 12), (whenE (decide ((n.l.length : Int) > 0)) 1)].map intA)]) ⟨first_lit5 (dirE f dir) (checkE s) (whenE (isB ((dirN f dir).l) s) 7) (whenE (decide ((((dirN f dir).l).length : Int) ≥ 256)) 12) (whenE (decide ((n.l.length : Int) > 0)) 1), trivial⟩ (first_spec [(dirE f dir), (checkE s), (whenE (isB ((dirN f dir).l) s) 7), (whenE (decide ((((dirN f dir).l).length : Int) ≥ 256)) 12), (whenE (decide ((n.l.length : Int) > 0)) 1)] (by simp)) <|
 .r 1 <| .frz 4 [4, 5, 6, 7, 8, 9, 11, 40, 50] [5, 6, 7, 8] [b1 = b1] ⟨rfl, trivial⟩ <|
 .frz 5 [4, 5, 6, 7, 8, 9, 11, 40, 50] [6, 7, 8] [b2 = b2] ⟨rfl, trivial⟩ <|
 .frz 6 [4, 5, 6, 7, 8, 9, 11, 40, 50] [7, 8] [b3 = b3] ⟨rfl, trivial⟩ <|
 .lent 3 <| .r 3 <| .lop (lcR Tryz.prog 7) ((118, [.agg [.sl 5 false (f.l.map nodA), aI f.next], aI (firstE [(dirE f dir), (checkE s), (whenE (isB ((dirN f dir).l) s) 7), (whenE (decide ((((dirN f dir).l).length : Int) ≥ 256)) 12), (whenE (decide ((n.l.length : Int) > 0)) 1)]), .clo 138 [.ptr 7 b4 0, .dptr [.sl 5 false (f.l.map nodA), aI f.next], .dptr [aI dir], .dptr [aS s]]], some 62), .box b4 59 [aI f.next, aI n.kind, aI 1, aS n.text, .sl 2 false (n.l.map entA)]) (fun (_ : Unit) σ => (σ.put (some 62) (.tup [.agg [.sl 5 false ((if firstE [(dirE f dir), (checkE s), (whenE (isB ((dirN f dir).l) s) 7), (whenE (decide ((((dirN f dir).l).length : Int) ≥ 256)) 12), (whenE (decide ((n.l.length : Int) > 0)) 1)] = 0 then addF f dir s (addN f n) else f).l.map nodA), aI ((if firstE [(dirE f dir), (checkE s), (whenE (isB ((dirN f dir).l) s) 7), (whenE (decide ((((dirN f dir).l).length : Int) ≥ 256)) 12), (whenE (decide ((n.l.length : Int) > 0)) 1)] = 0 then addF f dir s (addN f n) else f).next)], aI (firstE [(dirE f dir), (checkE s), (whenE (isB ((dirN f dir).l) s) 7), (whenE (decide ((((dirN f dir).l).length : Int) ≥ 256)) 12), (whenE (decide ((n.l.length : Int) > 0)) 1)])])).setB 7 gone) (rule_lent (args' := [.agg [.sl 5 false (f.l.map nodA), aI f.next], aI (firstE [(dirE f dir), (checkE s), (whenE (isB ((dirN f dir).l) s) 7), (whenE (decide ((((dirN f dir).l).length : Int) ≥ 256)) 12), (whenE (decide ((n.l.length : Int) > 0)) 1)]), .clo 138 [.ptr 7 b4 0, .dptr [.sl 5 false (f.l.map nodA), aI f.next], .dptr [aI dir], .dptr [aS s]]]) ⟨Sub.refl _, Sub.refl _, Sub.refl _, trivial⟩ (unless1_spec (firstE [(dirE f dir), (checkE s), (whenE (isB ((dirN f dir).l) s) 7), (whenE (decide ((((dirN f dir).l).length : Int) ≥ 256)) 12), (whenE (decide ((n.l.length : Int) > 0)) 1)]) f dir s (addN f n) b4 okf hp hs ⟨okf.1, hx⟩)) fun _ =>
 .run 4 [b5 = b5] ⟨rfl, trivial⟩ <|
 .fin (x := .tup [.agg [.sl 5 false ((if firstE [(dirE f dir), (checkE s), (whenE (isB ((dirN f dir).l) s) 7), (whenE (decide ((((dirN f dir).l).length : Int) ≥ 256)) 12), (whenE (decide ((n.l.length : Int) > 0)) 1)] = 0 then addF f dir s (addN f n) else f).l.map nodA), aI ((if firstE [(dirE f dir), (checkE s), (whenE (isB ((dirN f dir).l) s) 7), (whenE (decide ((((dirN f dir).l).length : Int) ≥ 256)) 12), (whenE (decide ((n.l.length : Int) > 0)) 1)] = 0 then addF f dir s (addN f n) else f).next)], aI (firstE [(dirE f dir), (checkE s), (whenE (isB ((dirN f dir).l) s) 7), (whenE (decide ((((dirN f dir).l).length : Int) ≥ 256)) 12), (whenE (decide ((n.l.length : Int) > 0)) 1)])]) (r := .tup [.agg (fsyA (if addErr f dir s n = 0 then addF f dir s (addN f n) else f)), aI (addErr f dir s n)]) [b5 = b5] ⟨rfl, trivial⟩ (by
    have e : addErr f dir s n = firstE [(dirE f dir), (checkE s), (whenE (isB ((dirN f dir).l) s) 7), (whenE (decide ((((dirN f dir).l).length : Int) ≥ 256)) 12), (whenE (decide ((n.l.length : Int) > 0)) 1)] := by
      unfold addErr
      simp only [q1, q3, Bool.true_or, Bool.false_or, Bool.not_true, Bool.not_false]
    rw [e]
    exact Sub.refl _)) Tryz.func113 rfl (by kernel_rfl) (by kernel_rfl)
end Go.Proofs.YtkhnialfkndiiaaGreat

set_option linter.unusedVariables false
set_option linter.unusedSimpArgs false
namespace Go.Proofs.YtkhnialfkndiiaaGreat
open Go Go.RowKit Copyhold
def rootN : Nod := ⟨1, 2, 0, [], []⟩
def newF : Fsy := ⟨[rootN], 2⟩
theorem sl1_of {k : Nat} {t : Bool} {e e' : List AV} (h : SubAll e e') : Sub (.sl k t [e]) (.sl k false [e']) :=
  (Sub.sl2 (t := t) (xs := [e]) (ys := [e']) rfl (fun i a b ha hb => by
    match i, ha, hb with
    | 0, ha, hb => simp at ha hb; rw [← ha, ← hb]; exact h
    | i + 1, ha, _ => simp at ha)).trans (Sub.loose _ _ _)
theorem rootN_ok : OkN rootN := ⟨⟨by decide, by decide⟩, ⟨by decide, by decide⟩, ⟨by decide, by decide⟩, by show (0 : Nat) ≤ _; omega, by show (0 : Nat) ≤ _; omega, fun e h => by cases h⟩
theorem newF_ok : OkF newF := ⟨⟨by decide, by decide⟩, by show (1 : Nat) ≤ _; omega, fun n h => by obtain rfl := List.mem_singleton.1 h; exact rootN_ok⟩
theorem newF_rise : RiseN newF.l := by simp [newF, RiseN, RiseF]
theorem newF_rows : rowsP newF := rowsP_iff.2 ⟨by decide, by decide, fun n h => by
  obtain rfl := List.mem_singleton.1 h
  exact ⟨⟨by decide, by decide, by decide, .inl ⟨rfl, rfl, rowP_nil⟩⟩, by decide⟩, newF_rise⟩
def fullB (n : Nod) : Bool := n.kind == 2 && decide ((n.l.length : Int) > 0)
set_option maxRecDepth 100000 in
set_option maxHeartbeats 4000000 in
theorem full_spec (n : Nod) (hl : n.l.length ≤ 8796093022207) : FSpec Tryz.prog 139 [.agg [aI n.ino, aI n.kind, aI n.links, aS n.text, .sl 2 false (n.l.map entA)]] (aB (fullB n)) := by
  exact spec_vc (F := Tryz.f139) 400 (
 .new fun b1 => .r 1 <| .run 4 [b1 = b1] ⟨rfl, trivial⟩ <|
 .br 6 (n.kind == 2) (fun q1 => have p1 := beqT q1; .run 3 [b1 = b1] ⟨rfl, trivial⟩ <|
 .val 9 (show (aI ((n.l.map entA).length : Int) : AV) = aI (n.l.length : Int) from by rw [List.length_map]) <| .r 3 <| .fin (x := aB (decide ((n.l.length : Int) > 0))) (r := aB (fullB n)) [] trivial (by exact Sub.of_eq (congrArg aB (by unfold fullB; simp_all))))
 <| fun q1 => have p1 := beqF q1; .r 6 <| .fin (x := aB false) (r := aB (fullB n)) [] trivial (by exact Sub.of_eq (congrArg aB (by unfold fullB; simp_all)))) Tryz.func139 rfl (by kernel_rfl) (by kernel_rfl)
set_option maxRecDepth 100000 in
set_option maxHeartbeats 4000000 in
theorem rnew_spec  : FSpec Tryz.prog 36 [] (.agg (fsyA newF)) := by
  exact spec_vc (F := Tryz.f36) 400 (
 .new fun b1 => .run 4 [b1 = b1] ⟨rfl, trivial⟩ <|
 .fin (x := .agg [.sl 5 true ([[aI 1, aI 2, aI 0, aS ([]), aN]]), aI 2]) (r := .agg (fsyA newF)) [b1 = b1] ⟨rfl, trivial⟩ (by exact Sub.aggs ⟨sl1_of ⟨Sub.refl _, Sub.refl _, Sub.refl _, Sub.refl _, Sub.nil _ _, trivial⟩, Sub.refl _, trivial⟩)) Tryz.func36 rfl (by kernel_rfl) (by kernel_rfl)
end Go.Proofs.YtkhnialfkndiiaaGreat
