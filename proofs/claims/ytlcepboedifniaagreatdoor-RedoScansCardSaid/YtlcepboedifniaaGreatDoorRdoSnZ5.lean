/- RedoScans over data. -/
import Derived.Test.YtlcepboedifniaaGreatDoorMrgQ
set_option linter.unusedVariables false
set_option linter.unusedSimpArgs false
namespace Go.Proofs.YtlcepboedifniaaGreatDoor
open Go Go.RowKit Copyhold Copyhold.Disk
structure Rsn where
  d : Dsk
  r : Rng
  l : Lg
  s : Txt
def rsnA (a : Rsn) : List AV := dskA a.d ++ rngA a.r ++ lgA a.l ++ [aS a.s]
structure OkRsn (a : Rsn) : Prop where
  dk : a.d.kept.length ≤ 8796093022208
  dw : a.d.w.length ≤ 8796093022208
  r : OkR a.r
  l : OkL a.l
  s : a.s.length ≤ 140737488351232
theorem scan_len {d : Dsk} {r : Rng} (a n : Int) (hr : Copyhold.Disk.Right d) (hk : d.kept.length ≤ 200) : (scanD d r a n).2.1.length ≤ 200 := by
  unfold scanD
  split
  · simp
  · split
    · exact Nat.le_trans (sumN_len _) (told_sum r.many hr hk)
    · simp
set_option maxRecDepth 100000 in
set_option maxHeartbeats 4000000 in
theorem redoScans_spec (a : Rsn) (h : OkRsn a) : FSpec Tryz.prog 3 [.agg [.sl 1 false (a.d.kept.map txA), .sl 2 false (a.d.w.map putA), aB a.d.off, aI a.r.from_, aI a.r.many, aI a.l.at_, aI a.l.used, .val (.int .u64 a.l.first), aI a.l.many, aS a.s]] (aB true) := by
  have hdk := h.dk
  have hdw := h.dw
  have hss := h.s
  exact spec_vd Tryz.func3 (
 .new fun b1 => .r 1 <| .u 2 [b1] <|
 .new fun b2 => .u 1 [b2] <|
 .u 2 [b1] <|
 .new fun b3 => .u 1 [b3] <|
 .u 2 [b1] <|
 .new fun b4 => .u 1 [b4] <|
 .u 3 [b1] <|
 .call (shown5) <|
 .r 1 <| .u 1 [b2] <|
 .call (few5_spec a.d h.dk h.dw) <|
 .r 1 <| .r 3 <| .br 30 (!(dP (fewP a.d))) (fun q1 => have q1 := notT q1; have p1 := booF q1; .r 4 <| .r 2 <| .fi (aB true) [])
 <| fun q1 => have q1 := notF q1; have p1 := booT q1; have hfw := (dP_true.1 q1).1; have hrt := (dP_true.1 q1).2; have hok := okd_of hrt (by omega); have hsl := scan_len (r := a.r) a.l.at_ a.l.first hrt (by omega); .r 4 <| .bd 34 (((a.s).length : Int) > 5000) (fun p2 => .r 2 <| .fi (aB true) [])
 <| fun p2 => .u 3 [b2, b3, b4] <|
 .call (rright_spec a.d a.r a.l (dP_true.1 q1).2 (by omega) (dP_true.1 q1).1.1 h.r h.l) <|
 .r 1 <| .u 6 [b2, b3, b4, b4] <|
 .call (scan_spec a.d a.r hok hrt (by omega) h.r a.l.at_ a.l.first h.l.a h.l.f) <|
 .r 4 <| .new fun b5 => .u 3 [b5] <|
 .u 6 [b2, b3, b4, b4] <|
 .call (rscan_spec a.d a.r hrt (by omega) (by omega) h.r a.l.at_ a.l.first h.l.a h.l.f) <|
 .r 4 <| .new fun b6 => .u 3 [b6] <|
 .r 2 <| .call (rstrs_spec (scanD a.d a.r a.l.at_ a.l.first).2.1 (scanD a.d a.r a.l.at_ a.l.first).2.1 (by omega) (by omega)) <|
 .r 1 <| .ord [0, 1, 2, 3, 4, 6, 7, 8, 5, 9, 10, 11, 12, 13, 15, 14, 16, 17, 18, 19, 20, 21, 22, 24, 23, 25, 26, 27, 28, 29, 30, 31, 32, 33, 34, 35, 36, 37, 38, 39, 40] <| .u 8 [b4, b4] <|
 .call (record_spec a.l.first a.s h.l.f (by omega)) <|
 .call (rrecord_spec a.l.first a.s h.l.f (by omega)) <|
 .r 3 <| .is 77 (show ((recB a.l.first a.s) == (recB a.l.first a.s)) = true from (beq_self_eq_true _)) <| .r 2 <| .call (need_spec a.s (by omega)) <|
 .call (rneed_spec a.s (by omega)) <|
 .r 3 <| .is 84 (show ((needB a.s : Int) == (needB a.s : Int)) = true from (beq_self_eq_true _)) <| .u 4 [b2, b3, b4] <|
 .call (right5_spec a.d a.r a.l hok hrt (by omega) h.r h.l) <|
 .r 3 <| .is 92 (show ((dP (rrT a.d a.r a.l)) == (dP (rrT a.d a.r a.l))) = true from (beq_self_eq_true _)) <| .u 2 [b5, b6] <|
 .eqS <| .r 2 <| .is 97 (show ((((scanD a.d a.r a.l.at_ a.l.first).1.at_) == ((scanD a.d a.r a.l.at_ a.l.first).1.at_)) && ((((scanD a.d a.r a.l.at_ a.l.first).1.used) == ((scanD a.d a.r a.l.at_ a.l.first).1.used)) && ((((scanD a.d a.r a.l.at_ a.l.first).1.first) == ((scanD a.d a.r a.l.at_ a.l.first).1.first)) && ((((scanD a.d a.r a.l.at_ a.l.first).1.many) == ((scanD a.d a.r a.l.at_ a.l.first).1.many)) && (true))))) = true from (by simp)) <| .r 3 <| .is 100 (show (dP ((scanD a.d a.r a.l.at_ a.l.first).2.1 = (scanD a.d a.r a.l.at_ a.l.first).2.1)) = true from (dP_true.2 rfl)) <| .r 5 <| .f (aB true) [] (aB (((scanD a.d a.r a.l.at_ a.l.first).2.2) == ((scanD a.d a.r a.l.at_ a.l.first).2.2))) (by exact Sub.of_eq (congrArg aB (beq_self_eq_true _))))
end Go.Proofs.YtlcepboedifniaaGreatDoor
