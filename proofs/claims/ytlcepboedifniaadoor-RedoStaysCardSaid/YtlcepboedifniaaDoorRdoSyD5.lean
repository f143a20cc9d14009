/- RedoStays over data. -/
import Derived.Test.YtlcepboedifniaaDoorMrgP
set_option linter.unusedVariables false
set_option linter.unusedSimpArgs false
namespace Go.Proofs.YtlcepboedifniaaDoor
open Go Go.RowKit Copyhold Copyhold.Disk
structure Rsy where
  d : Dsk
  r : Rng
  l : Lg
  s : Txt
  m : Int
def rsyA (a : Rsy) : List AV := dskA a.d ++ rngA a.r ++ lgA a.l ++ [aS a.s, aI a.m]
structure OkRsy (a : Rsy) : Prop where
  dk : a.d.kept.length ≤ 8796093022208
  dw : a.d.w.length ≤ 8796093022208
  r : OkR a.r
  l : OkL a.l
  s : a.s.length ≤ 140737488351232
  m : I64 a.m
theorem scan_call {d : Dsk} {r : Rng} {a n : Int} {q : Lg} {ts : List Txt} (h : scanD d r a n = (q, ts, 0)) (hr : Copyhold.Disk.Right d) (hk : d.kept.length ≤ 200) (hw : d.w.length ≤ 5000000) (okr : OkR r) (ha : I64 a) (hn : U64 n) : FSpec Tryd.prog 13 [.agg (dskA d), .agg (rngA r), aI a, .val (.int .u64 n)] (.tup [.agg (lgA q), .sl 1 false (ts.map txA), aI 0]) := by
  have e := scan_spec d r (okd_of hr (by omega)) hr hk okr a n ha hn
  rw [h] at e
  exact e
theorem iff_beq {x : Int} {q : Prop} [Decidable q] (h : x = 0 ↔ q) : ((x == 0) == decide q) = true := by
  by_cases hq : q
  · rw [decide_eq_true hq, h.2 hq]; rfl
  · rw [decide_eq_false hq, beq_eq_false_iff_ne.2 (fun e => hq (h.1 e))]; rfl
theorem ne_beq {x : Int} (h : ¬ x = 0) : ((x == 0) == false) = true := by rw [beq_eq_false_iff_ne.2 h]; rfl
theorem last_is {ts : List Txt} {s x : Txt} {m : Int} (hm : m = (ts.length : Int)) (h : (ts ++ [s])[m.toNat]? = some x) : x = s := by
  rw [show m.toNat = ts.length from by omega, List.getElem?_append_right (Nat.le_refl _), Nat.sub_self] at h
  exact (Option.some.inj h).symm
set_option maxRecDepth 100000 in
set_option maxHeartbeats 4000000 in
theorem redoStays_spec (a : Rsy) (h : OkRsy a) : FSpec Tryd.prog 3 [.agg [.sl 1 false (a.d.kept.map txA), .sl 2 false (a.d.w.map putA), aB a.d.off, aI a.r.from_, aI a.r.many, aI a.l.at_, aI a.l.used, .val (.int .u64 a.l.first), aI a.l.many, aS a.s, aI a.m]] (aB true) := by
  have hdk := h.dk
  have hdw := h.dw
  have hss := h.s
  have hnl := need_le (s := a.s)
  exact spec_vd Tryd.func3 (
 .new fun b1 => .r 1 <| .u 2 [b1] <|
 .new fun b2 => .u 1 [b2] <|
 .u 2 [b1] <|
 .new fun b3 => .u 1 [b3] <|
 .u 2 [b1] <|
 .new fun b4 => .u 1 [b4] <|
 .u 3 [b1] <|
 .u 3 [b1] <|
 .call (shown5) <|
 .r 1 <| .u 1 [b2] <|
 .call (few5_spec a.d h.dk h.dw) <|
 .r 1 <| .r 3 <| .br 35 (!(dP (fewP a.d))) (fun q1 => have q1 := notT q1; have p1 := booF q1; .r 11 <| .r 2 <| .fi (aB true) [])
 <| fun q1 => have q1 := notF q1; have p1 := booT q1; have hfw := (dP_true.1 q1).1; have hrt := (dP_true.1 q1).2; have hok := okd_of hrt (by omega); .r 5 <| .bd 40 (((a.s).length : Int) > 4096) (fun p2 => .r 6 <| .r 2 <| .fi (aB true) [])
 <| fun p2 => .u 3 [b2, b3, b4] <|
 .call (rright_spec a.d a.r a.l (dP_true.1 q1).2 (by omega) (dP_true.1 q1).1.1 h.r h.l) <|
 .r 2 <| .br 46 (!(dP (rrT a.d a.r a.l))) (fun q3 => have q3 := notT q3; have p3 := booF q3; .r 2 <| .fi (aB true) [])
 <| fun q3 => have q3 := notF q3; have p3 := booT q3; have hlo := rr_ok hrt h.l.f (dP_true.1 q3); have hbd := hlo.bd (by omega); .ex (app_ok (s := a.s) hrt hlo (by omega)) fun t2 ht2 =>
 have hw2 := ht2.2.2.1; .ex (drop_ok ht2.1.1 ht2.1.2 (by rw [ht2.2.1]; omega) a.m) fun t3 ht3 =>
 .ex (scan_ok hlo hrt (by omega)) fun t4 ht4 =>
 have hlm := hlo.many; have h2m := ht2.1.1.many; .u 4 [b2, b3, b4] <|
 .call (append_spec a.d a.r a.l a.s h.r h.l (by omega) (by omega) hlo.ring ⟨by omega, by omega⟩ ⟨by omega, by omega⟩ ⟨by omega, by omega⟩ (by omega)) <|
 .r 4 <| .new fun b5 => .new fun b6 => .u 3 [b5, b6] <|
 .u 3 [b5, b3, b6] <|
 .call (texts_ok ht2.1.1 ht2.1.2 (by rw [ht2.2.1]; omega) (by omega) h.r) <|
 .r 5 <| .u 4 [b5, b3, b6] <|
 .call (drop_spec (appD a.d a.r a.l a.s).1 a.r (appD a.d a.r a.l a.s).2.1 (okd_of ht2.1.2 (by omega)) ht2.1.2 (by rw [ht2.2.1]; omega) h.r (ht2.1.1.bd (by rw [ht2.2.1]; omega)).2.2.2.2.1 a.m h.m (ht2.1.1.bd (by rw [ht2.2.1]; omega)).2.2.2.2.2) <|
 .r 3 <| .new fun b7 => .u 2 [b7] <|
 .u 6 [b2, b3, b4, b4] <|
 .call (scan_call ht4.1.1 hrt (by omega) (by omega) h.r h.l.a h.l.f) <|
 .r 4 <| .new fun b8 => .u 3 [b8] <|
 .r 3 <| .is 85 (show (0 != 0) = false from (by decide)) <| .r 4 <| .is 89 (show (0 != 0) = false from (by decide)) <| .u 3 [b5, b3, b6] <|
 .call (rright_spec (appD a.d a.r a.l a.s).1 a.r (appD a.d a.r a.l a.s).2.1 ht2.1.2 (by omega) (by rw [ht2.2.1]; omega) h.r (ht2.1.1.bd (by rw [ht2.2.1]; omega)).2.2.2.2.1) <|
 .r 3 <| .is 96 (show (!(dP (rrT (appD a.d a.r a.l a.s).1 a.r (appD a.d a.r a.l a.s).2.1))) = false from (by rw [show (dP (rrT (appD a.d a.r a.l a.s).1 a.r (appD a.d a.r a.l a.s).2.1)) = true from (dP_true.2 (ok_rr ht2.1.2 (by rw [ht2.2.1]; omega) ht2.1.1))]; rfl)) <| .u 3 [b2, b3, b8] <|
 .call (rright_spec a.d a.r (lgW (lg0 a.r a.l.at_ a.l.first) t4) hrt (by omega) (by omega) h.r (ht4.1.2.bd (by omega)).2.2.2.2.1) <|
 .r 2 <| .is 102 (show (!(dP (rrT a.d a.r (lgW (lg0 a.r a.l.at_ a.l.first) t4)))) = false from (by rw [show (dP (rrT a.d a.r (lgW (lg0 a.r a.l.at_ a.l.first) t4))) = true from (dP_true.2 (ok_rr hrt (by omega) ht4.1.2))]; rfl)) <| .r 3 <| .be 105 ((appD a.d a.r a.l a.s).2.2) 0 (fun p4 => have he2 := ht2.2.2.2.1 p4; have hl2 : t2.length = a.d.w.length - a.d.w.length + (toldW a.d a.r (lg0 a.r a.l.at_ a.l.first) a.l.many).length + 1 := (by rw [he2]; simp); .r 2 <| .lm 107 t2 txA <| .run 5 [b4 = b4, rng .i64 (a.l.many + 1)] ⟨rfl, rng64 (by omega) (by omega), trivial⟩ <|
 .is 112 (show ((t2.length : Int) != (a.l.many + 1)) = false from (by rw [bne_eq_false_iff_eq]; omega)) <| .u 3 [b4] <|
 .idxM t2 txA a.l.many.toNat (m := a.l.many) (by omega) (by omega) fun x1 hx1 =>
 .r 5 <| .is 121 (show (!(x1 == a.s)) = false from (by rw [show (x1 == a.s) = true from (beq_iff_eq.2 (last_is hlm (he2 ▸ hx1)))]; rfl)) <| .u 5 [b5, b3, b7] <|
 .call (rright_spec (appD a.d a.r a.l a.s).1 a.r (dropD (appD a.d a.r a.l a.s).1 a.r (appD a.d a.r a.l a.s).2.1 a.m).1 ht2.1.2 (by omega) (by rw [ht2.2.1]; omega) h.r (ht3.1.bd (by rw [ht2.2.1]; omega)).2.2.2.2.1) <|
 .r 2 <| .is 129 (show (dP (rrT (appD a.d a.r a.l a.s).1 a.r (dropD (appD a.d a.r a.l a.s).1 a.r (appD a.d a.r a.l a.s).2.1 a.m).1)) = true from (dP_true.2 (ok_rr ht2.1.2 (by rw [ht2.2.1]; omega) ht3.1))) <| .r 5 <| .bd 134 (a.m ≥ 0) (fun p5 => .u 8 [b6] <|
 .is 142 (show ((((dropD (appD a.d a.r a.l a.s).1 a.r (appD a.d a.r a.l a.s).2.1 a.m).2) == 0) == (decide (a.m ≤ ((appD a.d a.r a.l a.s).2.1.many)))) = true from (iff_beq (ht3.2.trans ⟨fun h => h.2, fun h => ⟨p5, h⟩⟩))) <| .u 7 [b8, b4] <|
 .f (aB true) [] (aB (decide (((lgW (lg0 a.r a.l.at_ a.l.first) t4).many) ≥ a.l.many))) (by exact Sub.of_eq (congrArg aB (decide_eq_true ht4.2.1))))
 <| fun p5 => .r 8 <| .is 142 (show ((((dropD (appD a.d a.r a.l a.s).1 a.r (appD a.d a.r a.l a.s).2.1 a.m).2) == 0) == false) = true from (ne_beq (fun h => p5 (ht3.2.1 h).1))) <| .u 7 [b8, b4] <|
 .f (aB true) [] (aB (decide (((lgW (lg0 a.r a.l.at_ a.l.first) t4).many) ≥ a.l.many))) (by exact Sub.of_eq (congrArg aB (decide_eq_true ht4.2.1))))
 <| fun p4 => .r 16 <| .u 5 [b5, b3, b7] <|
 .call (rright_spec (appD a.d a.r a.l a.s).1 a.r (dropD (appD a.d a.r a.l a.s).1 a.r (appD a.d a.r a.l a.s).2.1 a.m).1 ht2.1.2 (by omega) (by rw [ht2.2.1]; omega) h.r (ht3.1.bd (by rw [ht2.2.1]; omega)).2.2.2.2.1) <|
 .r 2 <| .is 129 (show (dP (rrT (appD a.d a.r a.l a.s).1 a.r (dropD (appD a.d a.r a.l a.s).1 a.r (appD a.d a.r a.l a.s).2.1 a.m).1)) = true from (dP_true.2 (ok_rr ht2.1.2 (by rw [ht2.2.1]; omega) ht3.1))) <| .r 5 <| .bd 134 (a.m ≥ 0) (fun p6 => .u 8 [b6] <|
 .is 142 (show ((((dropD (appD a.d a.r a.l a.s).1 a.r (appD a.d a.r a.l a.s).2.1 a.m).2) == 0) == (decide (a.m ≤ ((appD a.d a.r a.l a.s).2.1.many)))) = true from (iff_beq (ht3.2.trans ⟨fun h => h.2, fun h => ⟨p6, h⟩⟩))) <| .u 7 [b8, b4] <|
 .f (aB true) [] (aB (decide (((lgW (lg0 a.r a.l.at_ a.l.first) t4).many) ≥ a.l.many))) (by exact Sub.of_eq (congrArg aB (decide_eq_true ht4.2.1))))
 <| fun p6 => .r 8 <| .is 142 (show ((((dropD (appD a.d a.r a.l a.s).1 a.r (appD a.d a.r a.l a.s).2.1 a.m).2) == 0) == false) = true from (ne_beq (fun h => p6 (ht3.2.1 h).1))) <| .u 7 [b8, b4] <|
 .f (aB true) [] (aB (decide (((lgW (lg0 a.r a.l.at_ a.l.first) t4).many) ≥ a.l.many))) (by exact Sub.of_eq (congrArg aB (decide_eq_true ht4.2.1))))
end Go.Proofs.YtlcepboedifniaaDoor
