/- RedoDrops over data. -/
import Derived.Test.YtlcepboedifniaaGreatDoorMrgQ
set_option linter.unusedVariables false
set_option linter.unusedSimpArgs false
namespace Go.Proofs.YtlcepboedifniaaGreatDoor
open Go Go.RowKit Copyhold Copyhold.Disk
structure Rdr where
  d : Dsk
  r : Rng
  l : Lg
  a : Int
  b : Int
def rdrA (a : Rdr) : List AV := dskA a.d ++ rngA a.r ++ lgA a.l ++ [aI a.a, aI a.b]
structure OkRdr (a : Rdr) : Prop where
  dk : a.d.kept.length ≤ 8796093022208
  dw : a.d.w.length ≤ 8796093022208
  r : OkR a.r
  l : OkL a.l
  am : I64 a.a
  bm : I64 a.b
theorem dropL_two {r : Rng} {l : Lg} {ts : List Txt} {m n : Nat} (h1 : 1 ≤ r.many) : dropL r (dropL r l ts m) (ts.drop m) n = dropL r l ts (m + n) := by
  have hs : sumN (ts.take (m + n)) = sumN (ts.take m) + sumN ((ts.drop m).take n) := by rw [List.take_add, sumN_app]
  unfold dropL roundF
  rw [if_neg (by omega), if_neg (by omega), if_neg (by omega), hs]
  simp only [Lg.mk.injEq]
  refine ⟨?_, by omega, by omega, by omega⟩
  rw [Int.emod_add_emod]
  congr 1
  omega
theorem iff_bne {x : Int} {q : Prop} [Decidable q] (h : x = 0 ↔ ¬ q) : ((x != 0) == decide q) = true := by
  by_cases hq : q
  · rw [decide_eq_true hq, bne_iff_ne.2 (fun e => h.1 e hq)]; rfl
  · rw [decide_eq_false hq, h.2 hq]; rfl
theorem drops_facts {d : Dsk} {r : Rng} {l : Lg} {ts : List Txt} (h : LogOk d r l ts) (hr : Copyhold.Disk.Right d) (hk : d.kept.length ≤ 200) {a b : Int} (ha : 0 ≤ a) (hb : 0 ≤ b) :
    (((dropD d r l a).2 = 0 ↔ ¬ a > l.many) ∧ ∃ t2, LogOk d r (dropD d r l a).1 t2) ∧
    ((dropD d r l a).2 = 0 → (dropD d r (dropD d r l a).1 b).2 = 0 → a + b ≤ (ts.length : Int) ∧ (dropD d r l (a + b)).2 = 0 ∧ (dropD d r (dropD d r l a).1 b).1 = (dropD d r l (a + b)).1 ∧ LogOk d r (dropD d r (dropD d r l a).1 b).1 (ts.drop (a + b).toNat)) := by
  have hm := h.many
  have h3 := (h.bd hk).2.2.2.1.2.1
  by_cases h1 : a ≤ l.many
  · obtain ⟨e1, k1⟩ := drop_in h hr hk ha h1
    have hm1 := k1.many
    rw [List.length_drop] at hm1
    rw [e1]
    refine ⟨⟨⟨fun _ => by omega, fun _ => rfl⟩, _, k1⟩, fun _ h2 => ?_⟩
    by_cases hb2 : b ≤ (dropL r l ts a.toNat).many
    · obtain ⟨e2, k2⟩ := drop_in k1 hr hk hb hb2
      obtain ⟨e3, k3⟩ := drop_in h hr hk (m := a + b) (by omega) (by omega)
      have e4 : (a + b).toNat = a.toNat + b.toNat := by omega
      rw [e2, e3, dropL_two h3, ← e4]
      refine ⟨by omega, rfl, rfl, ?_⟩
      exact k3
    · exfalso
      have e2 : dropD d r (dropL r l ts a.toNat) b = (dropL r l ts a.toNat, 1) := drop_out (by omega)
      change (dropD d r (dropL r l ts a.toNat) b).2 = 0 at h2
      rw [e2] at h2
      exact absurd (show (1 : Int) = 0 from h2) (by decide)
  · have e1 : dropD d r l a = (l, 1) := drop_out (by omega)
    rw [e1]
    exact ⟨⟨⟨fun e => absurd (show (1 : Int) = 0 from e) (by decide), fun e => absurd (by omega) e⟩, ts, h⟩, fun e => absurd (show (1 : Int) = 0 from e) (by decide)⟩
set_option maxRecDepth 100000 in
set_option maxHeartbeats 4000000 in
theorem redoDrops_spec (a : Rdr) (h : OkRdr a) : FSpec Tryz.prog 5 [.agg [.sl 1 false (a.d.kept.map txA), .sl 2 false (a.d.w.map putA), aB a.d.off, aI a.r.from_, aI a.r.many, aI a.l.at_, aI a.l.used, .val (.int .u64 a.l.first), aI a.l.many, aI a.a, aI a.b]] (aB true) := by
  have hdk := h.dk
  have hdw := h.dw
  have ha1 := h.am.1
  have ha2 := h.am.2
  have hb1 := h.bm.1
  have hb2 := h.bm.2
  exact spec_vd Tryz.func5 (
 .new fun b1 => .r 1 <| .u 2 [b1] <|
 .new fun b2 => .u 1 [b2] <|
 .u 2 [b1] <|
 .new fun b3 => .u 1 [b3] <|
 .u 2 [b1] <|
 .new fun b4 => .u 1 [b4] <|
 .u 3 [b1] <|
 .u 3 [b1] <|
 .call (shown5) <|
 .r 1 <| .u 1 [b2] <|
 .call (few5_spec a.d h.dk h.dw) <|
 .r 1 <| .r 3 <| .br 35 (!(dP (fewP a.d))) (fun q1 => have q1 := notT q1; have p1 := booF q1; .r 22 <| .r 2 <| .fi (aB true) [])
 <| fun q1 => have q1 := notF q1; have p1 := booT q1; have hfw := (dP_true.1 q1).1; have hrt := (dP_true.1 q1).2; have hok := okd_of hrt (by omega); .u 3 [b2, b3, b4] <|
 .call (rright_spec a.d a.r a.l (dP_true.1 q1).2 (by omega) (dP_true.1 q1).1.1 h.r h.l) <|
 .r 3 <| .br 42 (!(dP (rrT a.d a.r a.l))) (fun q2 => have q2 := notT q2; have p2 := booF q2; .r 15 <| .r 2 <| .fi (aB true) [])
 <| fun q2 => have q2 := notF q2; have p2 := booT q2; have hlo := rr_ok hrt h.l.f (dP_true.1 q2); have hbd := hlo.bd (by omega); have hlm := hlo.many; have htsl := (hlo.small (by omega)).2.1; .r 4 <| .bd 46 (a.a < 0) (fun p3 => .r 11 <| .r 2 <| .fi (aB true) [])
 <| fun p3 => .r 4 <| .bd 50 (a.b < 0) (fun p4 => .r 7 <| .r 2 <| .fi (aB true) [])
 <| fun p4 => .r 4 <| .bd 54 (a.a > 40) (fun p5 => .r 3 <| .r 2 <| .fi (aB true) [])
 <| fun p5 => .r 3 <| .bd 57 (a.b > 40) (fun p6 => .r 2 <| .fi (aB true) [])
 <| fun p6 => have hdf := drops_facts hlo hrt (by omega) (a := a.a) (b := a.b) (by omega) (by omega); .ex (hdf.1.2) fun t2 hx =>
 .u 3 [b2, b3, b4] <|
 .call (texts_ok hlo hrt (by omega) (by omega) h.r) <|
 .r 5 <| .u 4 [b2, b3, b4] <|
 .call (drop_spec a.d a.r a.l hok hrt (by omega) h.r h.l a.a h.am hbd.2.2.2.2.2) <|
 .r 3 <| .new fun b5 => .u 2 [b5] <|
 .u 4 [b2, b3, b5] <|
 .call (drop_spec a.d a.r (dropD a.d a.r a.l a.a).1 hok hrt (by omega) h.r (hx.bd (by omega)).2.2.2.2.1 a.b h.bm (hx.bd (by omega)).2.2.2.2.2) <|
 .r 3 <| .new fun b6 => .u 2 [b6] <|
 .run 6 [b2 = b2, b3 = b3, b4 = b4, rng .i64 (a.a + a.b)] ⟨rfl, rfl, rfl, rng64 (by omega) (by omega), trivial⟩ <|
 .call (drop_spec a.d a.r a.l hok hrt (by omega) h.r h.l (a.a + a.b) ⟨by omega, by omega⟩ hbd.2.2.2.2.2) <|
 .r 3 <| .new fun b7 => .u 2 [b7] <|
 .r 3 <| .bn 94 ((dropD a.d a.r a.l a.a).2) 0 (fun p7 => .r 3 <| .u 11 [b4] <|
 .f (aB true) [] (aB ((((dropD a.d a.r a.l a.a).2) != 0) == (decide (a.a > a.l.many)))) (by exact Sub.of_eq (congrArg aB (iff_bne hdf.1.1))))
 <| fun p7 => have hx0 : (dropD a.d a.r a.l a.a).2 = 0 := p7; .r 3 <| .bn 97 ((dropD a.d a.r (dropD a.d a.r a.l a.a).1 a.b).2) 0 (fun p8 => .u 11 [b4] <|
 .f (aB true) [] (aB ((((dropD a.d a.r a.l a.a).2) != 0) == (decide (a.a > a.l.many)))) (by exact Sub.of_eq (congrArg aB (iff_bne hdf.1.1))))
 <| fun p8 => have hdy := hdf.2 hx0 p8; have hdy1 := hdy.1; .u 3 [b2, b3, b6] <|
 .call (texts_ok hdy.2.2.2 hrt (by omega) (by omega) h.r) <|
 .r 5 <| .r 2 <| .lm 116 (toldW a.d a.r (lg0 a.r a.l.at_ a.l.first) a.l.many) txA <| .u 4 [b4] <|
 .is 120 (show (((toldW a.d a.r (lg0 a.r a.l.at_ a.l.first) a.l.many).length : Int) != a.l.many) = false from (bne_eq_false_iff_eq.2 hlm.symm)) <| .run 5 [rng .i64 (a.a + a.b)] ⟨rng64 (by omega) (by omega), trivial⟩ <|
 .lm 125 (toldW a.d a.r (lg0 a.r a.l.at_ a.l.first) a.l.many) txA <| .r 2 <| .is 127 (show (decide ((a.a + a.b) > ((toldW a.d a.r (lg0 a.r a.l.at_ a.l.first) a.l.many).length : Int))) = false from (decide_eq_false (by omega))) <| .r 6 <| .is 133 (show (((dropD a.d a.r a.l (a.a + a.b)).2) == 0) = true from (beq_iff_eq.2 hdy.2.1)) <| .u 2 [b6, b7] <|
 .eqS <| .r 2 <| .is 138 (show ((((dropD a.d a.r (dropD a.d a.r a.l a.a).1 a.b).1.at_) == ((dropD a.d a.r a.l (a.a + a.b)).1.at_)) && ((((dropD a.d a.r (dropD a.d a.r a.l a.a).1 a.b).1.used) == ((dropD a.d a.r a.l (a.a + a.b)).1.used)) && ((((dropD a.d a.r (dropD a.d a.r a.l a.a).1 a.b).1.first) == ((dropD a.d a.r a.l (a.a + a.b)).1.first)) && ((((dropD a.d a.r (dropD a.d a.r a.l a.a).1 a.b).1.many) == ((dropD a.d a.r a.l (a.a + a.b)).1.many)) && (true))))) = true from (by rw [hdy.2.2.1]; simp)) <| .run 5 [rng .i64 (a.a + a.b)] ⟨rng64 (by omega) (by omega), trivial⟩ <|
 .slc 1 false ((toldW a.d a.r (lg0 a.r a.l.at_ a.l.first) a.l.many).map txA) (some (a.a + a.b)) none none ((a.a + a.b).toNat) (((toldW a.d a.r (lg0 a.r a.l.at_ a.l.first) a.l.many).map txA).length) false (.inr (congrArg some (by omega))) (.inl ⟨rfl, rfl⟩) (.inl ⟨rfl, fun h => by cases h⟩) (by first | omega | (simp; done) | (simp; omega)) (by first | omega | (simp; done) | (simp; omega)) <|
 .cs (args0 := [.sl 1 false (((toldW a.d a.r (lg0 a.r a.l.at_ a.l.first) a.l.many).drop (a.a + a.b).toNat).map txA), .sl 1 false ((((toldW a.d a.r (lg0 a.r a.l.at_ a.l.first) a.l.many).map txA).take (((toldW a.d a.r (lg0 a.r a.l.at_ a.l.first) a.l.many).map txA).length)).drop ((a.a + a.b).toNat))]) (rstrs_spec ((toldW a.d a.r (lg0 a.r a.l.at_ a.l.first) a.l.many).drop (a.a + a.b).toNat) ((toldW a.d a.r (lg0 a.r a.l.at_ a.l.first) a.l.many).drop (a.a + a.b).toNat) (by rw [List.length_drop]; omega) (by rw [List.length_drop]; omega)) ⟨Sub.refl _, Sub.of_eq (congrArg (AV.sl 1 false) (by simp [List.map_drop, List.take_of_length_le])), trivial⟩ <|
 .r 2 <| .f (aB true) [] (aB (dP ((toldW a.d a.r (lg0 a.r a.l.at_ a.l.first) a.l.many).drop (a.a + a.b).toNat = (toldW a.d a.r (lg0 a.r a.l.at_ a.l.first) a.l.many).drop (a.a + a.b).toNat))) (by exact Sub.of_eq (congrArg aB (dP_true.2 rfl))))
end Go.Proofs.YtlcepboedifniaaGreatDoor
