/- RedoFull over data. -/
import Derived.Test.YtlcepboedifniaaDoorMrgP
set_option linter.unusedVariables false
set_option linter.unusedSimpArgs false
namespace Go.Proofs.YtlcepboedifniaaDoor
open Go Go.RowKit Copyhold Copyhold.Disk
structure Rfl where
  d : Dsk
  r : Rng
  l : Lg
  s : Txt
def rflA (a : Rfl) : List AV := dskA a.d ++ rngA a.r ++ lgA a.l ++ [aS a.s]
structure OkRfl (a : Rfl) : Prop where
  dk : a.d.kept.length ≤ 8796093022208
  dw : a.d.w.length ≤ 8796093022208
  r : OkR a.r
  l : OkL a.l
  s : a.s.length ≤ 140737488351232
set_option maxRecDepth 100000 in
set_option maxHeartbeats 4000000 in
theorem redoFull_spec (a : Rfl) (h : OkRfl a) : FSpec Tryd.prog 4 [.agg [.sl 1 false (a.d.kept.map txA), .sl 2 false (a.d.w.map putA), aB a.d.off, aI a.r.from_, aI a.r.many, aI a.l.at_, aI a.l.used, .val (.int .u64 a.l.first), aI a.l.many, aS a.s]] (aB true) := by
  have hdk := h.dk
  have hdw := h.dw
  have hss := h.s
  have hnl := need_le (s := a.s)
  exact spec_vd Tryd.func4 (
 .new fun b1 => .r 1 <| .u 2 [b1] <|
 .new fun b2 => .u 1 [b2] <|
 .u 2 [b1] <|
 .new fun b3 => .u 1 [b3] <|
 .u 2 [b1] <|
 .new fun b4 => .u 1 [b4] <|
 .u 3 [b1] <|
 .call (shown5) <|
 .r 1 <| .u 1 [b2] <|
 .call (few5_spec a.d h.dk h.dw) <|
 .r 1 <| .r 3 <| .br 26 (!(dP (fewP a.d))) (fun q1 => have q1 := notT q1; have p1 := booF q1; .r 11 <| .r 2 <| .fi (aB true) [])
 <| fun q1 => have q1 := notF q1; have p1 := booT q1; have hfw := (dP_true.1 q1).1; have hrt := (dP_true.1 q1).2; have hok := okd_of hrt (by omega); .r 5 <| .bd 31 (((a.s).length : Int) > 4096) (fun p2 => .r 6 <| .r 2 <| .fi (aB true) [])
 <| fun p2 => .u 3 [b2, b3, b4] <|
 .call (rright_spec a.d a.r a.l (dP_true.1 q1).2 (by omega) (dP_true.1 q1).1.1 h.r h.l) <|
 .r 2 <| .br 37 (!(dP (rrT a.d a.r a.l))) (fun q3 => have q3 := notT q3; have p3 := booF q3; .r 2 <| .fi (aB true) [])
 <| fun q3 => have q3 := notF q3; have p3 := booT q3; have hlo := rr_ok hrt h.l.f (dP_true.1 q3); have hbd := hlo.bd (by omega); .u 4 [b2, b3, b4] <|
 .call (append_spec a.d a.r a.l a.s h.r h.l (by omega) (by omega) hlo.ring ⟨by omega, by omega⟩ ⟨by omega, by omega⟩ ⟨by omega, by omega⟩ (by omega)) <|
 .r 4 <| .new fun b5 => .new fun b6 => .u 3 [b5, b6] <|
 .r 1 <| .call (need_spec a.s (by omega)) <|
 .r 1 <| .run 7 [b4 = b4, rng .i64 (a.l.used + (needB a.s : Int)), b3 = b3] ⟨rfl, rng64 (by omega) (by omega), rfl, trivial⟩ <|
 .bd 56 ((a.l.used + (needB a.s : Int)) > a.r.many) (fun p4 => have ha := app_room (d := a.d) hlo.off (by omega) p4; have hwl := laid_w (d := a.d) (r := a.r) (l := a.l) (s := a.s) hlo.off; .r 6 <| .is 62 (show (((appD a.d a.r a.l a.s).2.2) == 12) = true from (by rw [ha]; first | rfl | (simp; done) | (simp only [beq_iff_eq]; omega))) <| .u 2 [b6, b4] <|
 .eqS <| .r 2 <| .f (aB true) [] (aB ((((appD a.d a.r a.l a.s).2.1.at_) == a.l.at_) && ((((appD a.d a.r a.l a.s).2.1.used) == a.l.used) && ((((appD a.d a.r a.l a.s).2.1.first) == a.l.first) && ((((appD a.d a.r a.l a.s).2.1.many) == a.l.many) && (true)))))) (by exact Sub.of_eq (congrArg aB (by rw [ha]; first | rfl | (simp; done) | (simp only [beq_iff_eq]; omega)))))
 <| fun p4 => have ha := app_fits (d := a.d) hlo.off (by omega) p4; have hwl := laid_w (d := a.d) (r := a.r) (l := a.l) (s := a.s) hlo.off; .r 6 <| .is 72 (show (((appD a.d a.r a.l a.s).2.2) == 0) = true from (by rw [ha]; first | rfl | (simp; done) | (simp only [beq_iff_eq]; omega))) <| .run 9 [b6 = b6, b4 = b4, rng .i64 (a.l.used + (needB a.s : Int))] ⟨rfl, rfl, rng64 (by omega) (by omega), trivial⟩ <|
 .is 81 (show (((appD a.d a.r a.l a.s).2.1.used) == (a.l.used + (needB a.s : Int))) = true from (by rw [ha]; first | rfl | (simp; done) | (simp only [beq_iff_eq]; omega))) <| .run 8 [b6 = b6, b4 = b4, rng .i64 (a.l.many + 1)] ⟨rfl, rfl, rng64 (by omega) (by omega), trivial⟩ <|
 .is 89 (show (((appD a.d a.r a.l a.s).2.1.many) == (a.l.many + 1)) = true from (by rw [ha]; first | rfl | (simp; done) | (simp only [beq_iff_eq]; omega))) <| .u 7 [b6, b4] <|
 .is 96 (show (((appD a.d a.r a.l a.s).2.1.at_) == a.l.at_) = true from (by rw [ha]; first | rfl | (simp; done) | (simp only [beq_iff_eq]; omega))) <| .u 4 [b6, b4] <|
 .binV .eql 28 (eqlN (k := .u64) (a := ((appD a.d a.r a.l a.s).2.1.first)) (b := a.l.first)) <|
 .r 2 <| .is 103 (show (((appD a.d a.r a.l a.s).2.1.first) == a.l.first) = true from (by rw [ha]; first | rfl | (simp; done) | (simp only [beq_iff_eq]; omega))) <| .u 3 [b5] <|
 .lm 106 ((appD a.d a.r a.l a.s).1.w) putA <| .u 3 [b2] <|
 .lm 109 a.d.w putA <| .run 5 [rng .i64 ((a.d.w.length : Int) + (needB a.s : Int))] ⟨rng64 (by omega) (by omega), trivial⟩ <|
 .f (aB true) [] (aB ((((appD a.d a.r a.l a.s).1.w).length : Int) == ((a.d.w.length : Int) + (needB a.s : Int)))) (by exact Sub.of_eq (congrArg aB (by rw [ha]; first | rfl | (simp; done) | (simp only [beq_iff_eq]; omega)))))
end Go.Proofs.YtlcepboedifniaaDoor
