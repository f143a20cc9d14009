/- RedoEmpties over data. -/
import Derived.Test.YtlcepboedifniaaDoorMrgQ
set_option linter.unusedVariables false
set_option linter.unusedSimpArgs false
namespace Go.Proofs.YtlcepboedifniaaDoor
open Go Go.RowKit Copyhold Copyhold.Disk
def endL (r : Rng) (l : Lg) : Lg := ⟨(l.at_ + l.used) % r.many, 0, (l.first + l.many) % 18446744073709551616, 0⟩
theorem end_ok {d : Dsk} {r : Rng} {l : Lg} {ts : List Txt} (h : LogOk d r l ts) (hr : Copyhold.Disk.Right d) (hk : d.kept.length ≤ 200) : dropD d r l l.many = (endL r l, 0) ∧ LogOk d r (endL r l) [] := by
  have hm := h.many
  obtain ⟨e, k⟩ := drop_in h hr hk (m := l.many) (by omega) (Int.le_refl _)
  have e2 : dropL r l ts l.many.toNat = endL r l := drop_all h.used h.many (h.bd hk).2.2.2.1.2.1
  rw [e2] at e k
  rw [List.drop_of_length_le (by omega)] at k
  exact ⟨e, k⟩
theorem dropEnd_spec {d : Dsk} {r : Rng} {l : Lg} {ts : List Txt} (h : LogOk d r l ts) (hr : Copyhold.Disk.Right d) (hk : d.kept.length ≤ 200) (hw : d.w.length ≤ 5000000) (okr : OkR r) : FSpec Tryd.prog 12 [.agg (dskA d), .agg (rngA r), .agg (lgA l), aI l.many] (.tup [.agg (lgA (endL r l)), aI 0]) := by
  have b := (h.bd hk).2.2.2.2
  have e := drop_spec d r l (okd_of hr (by omega)) hr hk okr b.1 l.many b.1.m b.2
  rw [(end_ok h hr hk).1] at e
  exact e
theorem dropNil_spec {d : Dsk} {r : Rng} {l : Lg} {ts : List Txt} (h : LogOk d r l ts) (hr : Copyhold.Disk.Right d) (hk : d.kept.length ≤ 200) (hw : d.w.length ≤ 5000000) (okr : OkR r) : FSpec Tryd.prog 12 [.agg (dskA d), .agg (rngA r), .agg (lgA l), aI 0] (.tup [.agg (lgA l), aI 0]) := by
  have b := (h.bd hk).2.2.2.2
  have hm := h.many
  have e := drop_spec d r l (okd_of hr (by omega)) hr hk okr b.1 0 ⟨by decide, by decide⟩ b.2
  rw [(drop_in h hr hk (m := 0) (Int.le_refl _) (by omega)).1, show (0 : Int).toNat = 0 from rfl, drop_none h] at e
  exact e
set_option maxRecDepth 100000 in
set_option maxHeartbeats 4000000 in
theorem redoEmpties_spec (d : Dsk) (r : Rng) (l : Lg) (okd : OkD0 d) (okr : OkR r) (okl : OkL l) : FSpec Tryd.prog 5 [.agg [.sl 1 false (d.kept.map txA), .sl 2 false (d.w.map putA), aB d.off], .agg [aI r.from_, aI r.many], .agg [aI l.at_, aI l.used, .val (.int .u64 l.first), aI l.many]] (aB true) := by
  have hdk := okd.kept
  have hdw := okd.w
  exact spec_vd Tryd.func5 (
 .new fun b1 => .new fun b2 => .new fun b3 => .r 1 <| .call (shown5) <|
 .r 1 <| .u 1 [b1] <|
 .call (few5_spec d (by have := okd.kept; omega) (by have := okd.w; omega)) <|
 .r 1 <| .r 3 <| .br 20 (!(dP (fewP d))) (fun q1 => have q1 := notT q1; have p1 := booF q1; .r 6 <| .r 2 <| .fi (aB true) [])
 <| fun q1 => have q1 := notF q1; have p1 := booT q1; have hfw := (dP_true.1 q1).1; have hrt := (dP_true.1 q1).2; .u 3 [b1, b2, b3] <|
 .call (rright_spec d r l (dP_true.1 q1).2 (by omega) (dP_true.1 q1).1.1 okr okl) <|
 .r 2 <| .br 26 (!(dP (rrT d r l))) (fun q2 => have q2 := notT q2; have p2 := booF q2; .r 2 <| .fi (aB true) [])
 <| fun q2 => have q2 := notF q2; have p2 := booT q2; have hlo := rr_ok hrt okl.f (dP_true.1 q2); have hbd := hlo.bd (by omega); .u 5 [b1, b2, b3, b3] <|
 .call (dropEnd_spec hlo hrt (by omega) (by omega) okr) <|
 .r 3 <| .new fun b4 => .u 2 [b4] <|
 .u 3 [b1, b2, b3] <|
 .call (dropNil_spec hlo hrt (by omega) (by omega) okr) <|
 .r 3 <| .new fun b5 => .u 2 [b5] <|
 .u 3 [b1, b2, b4] <|
 .call (texts_ok (end_ok hlo hrt (by omega)).2 hrt (by omega) (by omega) okr) <|
 .r 5 <| .ord [0, 1, 2, 3, 4, 5, 6, 7, 8, 9, 10, 11, 12, 13, 14, 15, 16, 17, 18, 19, 20, 21, 22, 23, 24, 25, 26, 27, 28, 29, 30, 31, 32, 33, 34, 35, 36, 37, 38, 39, 40, 41, 42, 43, 44, 45, 46, 47, 48, 49, 50, 51, 52, 53, 54, 55, 56, 57] <| .r 6 <| .is 56 (show (0 == 0) = true from rfl) <| .r 4 <| .is 60 (show (0 == 0) = true from rfl) <| .r 4 <| .is 64 (show (0 == 0) = true from rfl) <| .u 2 [b5, b3] <|
 .eqS <| .r 2 <| .is 69 (show ((l.at_ == l.at_) && ((l.used == l.used) && ((l.first == l.first) && ((l.many == l.many) && (true))))) = true from (by simp)) <| .u 5 [b4] <|
 .is 74 (show (0 == 0) = true from rfl) <| .u 5 [b4] <|
 .is 79 (show (0 == 0) = true from rfl) <| .run 9 [b4 = b4, b3 = b3, b3 = b3, rng .i64 (l.at_ + l.used), b2 = b2] ⟨rfl, rfl, rfl, rng64 (by omega) (by omega), rfl, trivial⟩ <|
 .binV .rem 3 (remN (a := l.at_ + l.used) (b := r.many) (by omega) (by omega) (by omega)) <|
 .r 3 <| .is 92 (show (((l.at_ + l.used) % r.many) == ((l.at_ + l.used) % r.many)) = true from (beq_self_eq_true _)) <| .u 6 [b4, b3, b3] <|
 .op (cvR) (3, 28, .int .i64 l.many, some 99) (fun (_ : Unit) σ => σ.put (some 99) (.val (.int .u64 l.many))) (rule_cv (conv_int (by kernel_rfl) (by kernel_rfl) (rngu (by omega) (by omega)))) fun _ =>
 .binV .add 28 (addW (a := l.first) (b := l.many)) <|
 .binV .eql 28 (eqlN (k := .u64) (a := ((l.first + l.many) % 18446744073709551616)) (b := ((l.first + l.many) % 18446744073709551616))) <|
 .r 2 <| .is 103 (show (((l.first + l.many) % 18446744073709551616) == ((l.first + l.many) % 18446744073709551616)) = true from (beq_self_eq_true _)) <| .r 2 <| .lm 105 ([] : List Txt) txA <| .r 3 <| .f (aB true) [] (aB ((([] : List Txt).length : Int) == 0)) (by exact Sub.of_eq (congrArg aB (by first | rfl | (simp; done) | (simp only [beq_iff_eq]; omega)))))
end Go.Proofs.YtlcepboedifniaaDoor
