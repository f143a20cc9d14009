/- Logs behind a crash; RedoCrash over data. -/
import Derived.Test.YtlcepboedifniaaGreatDoorRdoT2Z5
import Derived.Test.YtlcepboedifniaaGreatDoorMrgP
set_option linter.unusedVariables false
set_option linter.unusedSimpArgs false
namespace Go.Proofs.YtlcepboedifniaaGreatDoor
open Go Go.RowKit Copyhold Copyhold.Disk
theorem crK_keep {l : List Txt} {ws : List (Int × Txt)} {keep : List Bool} {i : Nat} (h : ∀ p ∈ ws, ¬ p.1.toNat = i) : ∀ k, k ≤ ws.length → (crK l ws keep k)[i]? = l[i]?
  | 0, _ => rfl
  | k + 1, hk => by
    have ih := crK_keep (l := l) (keep := keep) h k (by omega)
    unfold crK
    split
    · rw [List.getElem?_set_ne, ih]
      rw [List.getD_eq_getElem?_getD, List.getElem?_eq_getElem (by omega)]
      exact h _ (List.getElem_mem _)
    · exact ih
theorem crK_64 {l : List Txt} {ws : List (Int × Txt)} {keep : List Bool} (hl : ∀ x ∈ l, x.length = 64) (hw : ∀ p ∈ ws, p.2.length = 64) : ∀ k, k ≤ ws.length → ∀ x ∈ crK l ws keep k, x.length = 64
  | 0, _ => hl
  | k + 1, hk => by
    have ih := crK_64 (keep := keep) hl hw k (by omega)
    unfold crK
    split
    · intro x hx
      rcases List.mem_or_eq_of_mem_set hx with hx | rfl
      · exact ih x hx
      · rw [List.getD_eq_getElem?_getD, List.getElem?_eq_getElem (by omega)]
        exact hw _ (List.getElem_mem _)
    · exact ih
theorem still {d : Dsk} (hr : Copyhold.Disk.Right d) (hw : d.w = []) : imageL d = d.kept := by
  rw [Copyhold.Disk.Right.image hr, hw]
  rfl
theorem flD_right {d : Dsk} (hr : Copyhold.Disk.Right d) : Copyhold.Disk.Right (flD d) := ⟨by show 1 ≤ (imageL d).length ∧ (imageL d).length ≤ 4096; rw [image_len]; exact hr.1, image64 hr, fun p hp => by cases hp⟩
theorem crD_right {d : Dsk} (hr : Copyhold.Disk.Right d) (keep : List Bool) : Copyhold.Disk.Right (crD d keep) := ⟨by show 1 ≤ (crK _ _ _ _).length ∧ (crK _ _ _ _).length ≤ 4096; rw [crK_len]; exact hr.1, crK_64 hr.2.1 (fun p hp => (hr.2.2 p hp).2) _ (Nat.min_le_left _ _), fun p hp => by cases hp⟩
theorem flD_ok {d : Dsk} {r : Rng} {l : Lg} {ts : List Txt} (hr : Copyhold.Disk.Right d) (h : LogOk d r l ts) : LogOk (flD d) r l ts := by
  have hi : imageL (flD d) = imageL d := still (flD_right hr) rfl
  refine ⟨rfl, by show ringP (imageL d).length r; rw [image_len]; exact h.ring, h.place, h.used, h.room, h.many, ?_, h.num⟩
  rw [← h.seg]
  exact segN_ext fun j _ => by unfold secI; rw [hi]
structure CrI (d : Dsk) (r : Rng) (l : Lg) (ts : List Txt) (y : Dsk × Lg) (k : Nat) : Prop where
  ok : ∃ x, LogOk y.1 r y.2 (ts ++ x)
  right : Copyhold.Disk.Right y.1
  kept : y.1.kept = d.kept
  at_ : y.2.at_ = l.at_
  used : l.used ≤ y.2.used
  w : ∀ p ∈ y.1.w, ∃ j : Nat, l.used ≤ (j : Int) ∧ (j : Int) < r.many ∧ p.1 = r.from_ + (l.at_ + (j : Int)) % r.many
  len : y.1.w.length ≤ 80 * k
theorem layK_w {d : Dsk} {r : Rng} {a : Int} {ps : List Txt} : ∀ k, ∀ p ∈ (layK d r a ps k).w, p ∈ d.w ∨ ∃ j : Nat, j < k ∧ p.1 = r.from_ + roundF r (a + (j : Int))
  | 0, p, hp => .inl hp
  | k + 1, p, hp => by
    rcases List.mem_append.1 hp with hp | hp
    · rcases layK_w k p hp with h | ⟨j, hj, e⟩
      · exact .inl h
      · exact .inr ⟨j, by omega, e⟩
    · obtain rfl := List.mem_singleton.1 hp
      exact .inr ⟨k, by omega, rfl⟩
theorem CrI.step {d : Dsk} {r : Rng} {l : Lg} {ts : List Txt} {y : Dsk × Lg} {k : Nat} {s : Txt} (h : CrI d r l ts y k) (hu : 0 ≤ l.used) (hs : s.length ≤ 4096) : CrI d r l ts ((appD y.1 r y.2 s).1, (appD y.1 r y.2 s).2.1) (k + 1) := by
  obtain ⟨x, hx⟩ := h.ok
  have hn := need_le (s := s) (by omega)
  have hl := h.len
  by_cases hf : y.2.used + (needB s : Int) > r.many
  · rw [app_room hx.off hs hf]
    exact ⟨⟨x, hx⟩, h.right, h.kept, h.at_, h.used, h.w, by show y.1.w.length ≤ _; omega⟩
  · rw [app_fits hx.off hs hf]
    have hus := h.used
    obtain ⟨h1, h2, h3⟩ := ok_append (s := s) h.right hx (by omega)
    refine ⟨⟨x ++ [s], by rw [← List.append_assoc]; exact h3⟩, h1, h2.trans h.kept, h.at_, by show l.used ≤ _ + _; omega, fun p hp => ?_, by show (laidD y.1 r y.2 s).w.length ≤ _; rw [laid_w hx.off]; omega⟩
    have h3r : 0 ≤ r.from_ ∧ 1 ≤ r.many ∧ _ := hx.ring
    rcases layK_w _ p hp with hp | ⟨j, hj, e⟩
    · exact h.w p hp
    · rw [cutF_len, cut_need] at hj
      refine ⟨(y.2.used + (j : Int)).toNat, by omega, by omega, ?_⟩
      rw [e, h.at_, show roundF r (l.at_ + y.2.used + (j : Int)) = (l.at_ + y.2.used + (j : Int)) % r.many from if_neg (by omega)]
      congr 2
      omega
theorem CrI.first {d : Dsk} {r : Rng} {l : Lg} {ts : List Txt} (hr : Copyhold.Disk.Right d) (h : LogOk d r l ts) (hw : d.w = []) : CrI d r l ts (d, l) 0 := ⟨⟨[], by rw [List.append_nil]; exact h⟩, hr, rfl, rfl, Int.le_refl _, fun p hp => (by rw [hw] at hp; cases hp), by show d.w.length ≤ _; rw [hw]; exact Nat.le_refl _⟩
theorem CrI.crash {d : Dsk} {r : Rng} {l : Lg} {ts : List Txt} {y : Dsk × Lg} {k : Nat} (h : CrI d r l ts y k) (hr : Copyhold.Disk.Right d) (hw : d.w = []) (hl : LogOk d r l ts) (keep : List Bool) : LogOk (crD y.1 keep) r l ts := by
  have hi : imageL (crD y.1 keep) = crK y.1.kept y.1.w keep (min y.1.w.length keep.length) := still (crD_right h.right keep) rfl
  have hkl : (crD y.1 keep).kept.length = d.kept.length := by show (crK _ _ _ _).length = _; rw [crK_len, h.kept]
  have hu := hl.used
  have hro := hl.room
  refine ⟨rfl, by rw [hkl]; exact hl.ring, hl.place, hl.used, hl.room, hl.many, ?_, hl.num⟩
  rw [← hl.seg]
  refine segN_ext fun i hi2 => ?_
  unfold secI
  rw [hi, still hr hw, List.getD_eq_getElem?_getD, List.getD_eq_getElem?_getD, crK_keep ?_ _ (Nat.min_le_left _ _), h.kept]
  intro p hp e
  obtain ⟨j, h1, h2, h3⟩ := h.w p hp
  rw [h3] at e
  have r1 := ring_in hl.ring (l.at_ + (j : Int))
  have r2 := ring_in hl.ring (l.at_ + (i : Int))
  have := mod_inj (M := r.many) (a := l.at_) (j := j) (k := i) h2 (by omega) (by omega)
  omega
def apsD (r : Rng) : Dsk → Lg → List Txt → Dsk × Lg
  | d, l, [] => (d, l)
  | d, l, s :: t => apsD r (appD d r l s).1 (appD d r l s).2.1 t
theorem aps_snoc (r : Rng) (s : Txt) : ∀ (t : List Txt) (d : Dsk) (l : Lg), apsD r d l (t ++ [s]) = ((appD (apsD r d l t).1 r (apsD r d l t).2 s).1, (appD (apsD r d l t).1 r (apsD r d l t).2 s).2.1)
  | [], d, l => rfl
  | x :: t, d, l => aps_snoc r s t _ _
theorem aps_step {r : Rng} {d : Dsk} {l : Lg} {t : List Txt} {k : Nat} {s : Txt} (h : t[k]? = some s) : apsD r d l (t.take (k + 1)) = ((appD (apsD r d l (t.take k)).1 r (apsD r d l (t.take k)).2 s).1, (appD (apsD r d l (t.take k)).1 r (apsD r d l (t.take k)).2 s).2.1) := by
  rw [take_step h, aps_snoc]
theorem aps_inv {d : Dsk} {r : Rng} {l : Lg} {ts t : List Txt} (hr : Copyhold.Disk.Right d) (h : LogOk d r l ts) (hw : d.w = []) (hs : ∀ s ∈ t, s.length ≤ 4096) : ∀ k, CrI d r l ts (apsD r d l (t.take k)) k
  | 0 => by rw [List.take_zero]; exact CrI.first hr h hw
  | k + 1 => by
    have hu := h.used
    have ih := aps_inv hr h hw hs k
    cases e : t[k]? with
    | none =>
      rw [List.take_of_length_le (by have := List.getElem?_eq_none_iff.1 e; omega)]
      rw [List.take_of_length_le (by have := List.getElem?_eq_none_iff.1 e; omega)] at ih
      exact ⟨ih.ok, ih.right, ih.kept, ih.at_, ih.used, ih.w, by have := ih.len; omega⟩
    | some s =>
      rw [aps_step e]
      exact ih.step (by omega) (hs s (List.mem_of_getElem? e))
theorem CrI.bd {d : Dsk} {r : Rng} {l : Lg} {ts : List Txt} {y : Dsk × Lg} {k : Nat} (h : CrI d r l ts y k) (hk : d.kept.length ≤ 40) : OkL y.2 ∧ y.1.kept.length ≤ 40 ∧ ringP y.1.kept.length r ∧ (0 ≤ y.2.at_ + y.2.used ∧ y.2.at_ + y.2.used ≤ 1000000) ∧ (-100000 ≤ y.2.used ∧ y.2.used ≤ 100000) ∧ (0 ≤ y.2.many ∧ y.2.many ≤ 100000) := by
  obtain ⟨x, hx⟩ := h.ok
  have hkk : y.1.kept.length ≤ 40 := by rw [h.kept]; exact hk
  have hb := hx.bd (by omega)
  exact ⟨hb.2.2.2.2.1, hkk, hx.ring, by omega, by omega, by omega⟩
theorem CrI.texts {d : Dsk} {r : Rng} {l : Lg} {ts : List Txt} {y : Dsk × Lg} {k : Nat} (h : CrI d r l ts y k) (hm : l.many = (ts.length : Int)) : ∃ all, LogOk y.1 r y.2 all ∧ l.many ≤ y.2.many ∧ y.2.many = (all.length : Int) := by
  obtain ⟨x, hx⟩ := h.ok
  have := hx.many
  refine ⟨_, hx, ?_, hx.many⟩
  rw [hx.many, List.length_append, hm]
  omega
theorem long_each {t : List Txt} {x : Txt} (h : x ∈ t) : x.length ≤ longK t t.length := by
  have : x.length ≤ (t.map List.length).sum := by
    induction t with
    | nil => cases h
    | cons a r ih =>
      rw [List.map_cons, List.sum_cons]
      rcases List.mem_cons.1 h with rfl | h
      · omega
      · have := ih h
        omega
  unfold longK
  rw [List.take_length]
  omega
theorem scan_callZ {d : Dsk} {r : Rng} {a n : Int} {q : Lg} {ts : List Txt} (h : scanD d r a n = (q, ts, 0)) (hr : Copyhold.Disk.Right d) (hk : d.kept.length ≤ 200) (hw : d.w.length ≤ 5000000) (okr : OkR r) (ha : I64 a) (hn : U64 n) : FSpec Tryz.prog 9 [.agg (dskA d), .agg (rngA r), aI a, .val (.int .u64 n)] (.tup [.agg (lgA q), .sl 1 false (ts.map txA), aI 0]) := by
  have e := scan_spec d r (okd_of hr (by omega)) hr hk okr a n ha hn
  rw [h] at e
  exact e
structure Rcr where
  d : Dsk
  r : Rng
  l : Lg
  t : List Txt
  k : List Bool
def rcrA (a : Rcr) : List AV := dskA a.d ++ rngA a.r ++ lgA a.l ++ [.sl 1 false (a.t.map txA), .sl 1 false (a.k.map boA)]
structure OkRcr (a : Rcr) : Prop where
  dk : a.d.kept.length ≤ 8796093022208
  dw : a.d.w.length ≤ 8796093022208
  r : OkR a.r
  l : OkL a.l
  tl : a.t.length ≤ 8796093022208
  t : ∀ x ∈ a.t, x.length ≤ 140737488351232
  k : a.k.length ≤ 281474976710656
set_option maxRecDepth 100000 in
set_option maxHeartbeats 4000000 in
theorem redoCrash_spec (a : Rcr) (h : OkRcr a) : FSpec Tryz.prog 4 [.agg [.sl 1 false (a.d.kept.map txA), .sl 2 false (a.d.w.map putA), aB a.d.off, aI a.r.from_, aI a.r.many, aI a.l.at_, aI a.l.used, .val (.int .u64 a.l.first), aI a.l.many, .sl 1 false (a.t.map txA), .sl 1 false (a.k.map boA)]] (aB true) := by
  have hdk := h.dk
  have hdw := h.dw
  have htl := h.tl
  have hkl := h.k
  exact spec_vd Tryz.func4 (
 .new fun b1 => .r 1 <| .u 2 [b1] <|
 .new fun b2 => .u 1 [b2] <|
 .u 2 [b1] <|
 .new fun b3 => .u 1 [b3] <|
 .u 2 [b1] <|
 .new fun b4 => .u 1 [b4] <|
 .u 3 [b1] <|
 .u 3 [b1] <|
 .call (shown5) <|
 .r 1 <| .u 1 [b2] <|
 .call (few5_spec a.d h.dk h.dw) <|
 .r 1 <| .r 3 <| .br 33 (!(dP (fewP a.d))) (fun q1 => have q1 := notT q1; have p1 := booF q1; .r 16 <| .r 2 <| .fi (aB true) [])
 <| fun q1 => have q1 := notF q1; have p1 := booT q1; have hfw := (dP_true.1 q1).1; have hrt := (dP_true.1 q1).2; .r 2 <| .lm 35 a.t txA <| .r 3 <| .bd 38 ((a.t.length : Int) > 10) (fun p2 => .r 11 <| .r 2 <| .fi (aB true) [])
 <| fun p2 => .r 1 <| .call (long_spec a.t 140737488351232 h.t (by omega) (by omega)) <|
 .r 3 <| .bd 43 ((longK a.t a.t.length : Int) > 1000) (fun p3 => .r 6 <| .r 2 <| .fi (aB true) [])
 <| fun p3 => have hts : ∀ s ∈ a.t, s.length ≤ 4096 := (fun s hs => by have := long_each hs; omega); .u 3 [b2, b3, b4] <|
 .call (rright_spec a.d a.r a.l (dP_true.1 q1).2 (by omega) (dP_true.1 q1).1.1 h.r h.l) <|
 .r 2 <| .br 49 (!(dP (rrT a.d a.r a.l))) (fun q4 => have q4 := notT q4; have p4 := booF q4; .r 2 <| .fi (aB true) [])
 <| fun q4 => have q4 := notF q4; have p4 := booT q4; have hlo := rr_ok hrt h.l.f (dP_true.1 q4); have hflr := flD_right hrt; have hflo := flD_ok hrt hlo; have hfk : (flD a.d).kept.length ≤ 40 := (by show (imageL a.d).length ≤ 40; rw [image_len]; omega); have hlm := hlo.many; .u 1 [b2] <|
 .call (flush_spec a.d hrt (by omega) hlo.off) <|
 .u 4 [b2] <|
 .u 1 [b2] <|
 .new fun b5 => .u 1 [b5] <|
 .u 1 [b4] <|
 .new fun b6 => .u 1 [b6] <|
 .r 1 <| let L1 : Lp (Nat) := ⟨fun a1 => ⟨[(4, .ptr 4 b3 0), (5, .ptr 5 b4 0), (6, .sl 1 false (a.t.map txA)), (7, .sl 1 false (a.k.map boA)), (8, aB true), (10, .ptr 10 b5 0), (11, .ptr 11 b6 0), (12, aI (a1 : Int))], [(4, .box b3 27 [aI a.r.from_, aI a.r.many]), (5, .box b4 30 [aI a.l.at_, aI a.l.used, .val (.int .u64 a.l.first), aI a.l.many]), (10, .box b5 25 [.sl 1 false ((apsD a.r (flD a.d) a.l (a.t.take a1)).1.kept.map txA), .sl 2 false ((apsD a.r (flD a.d) a.l (a.t.take a1)).1.w.map putA), aB ((apsD a.r (flD a.d) a.l (a.t.take a1)).1.off)]), (11, .box b6 30 [aI ((apsD a.r (flD a.d) a.l (a.t.take a1)).2.at_), aI ((apsD a.r (flD a.d) a.l (a.t.take a1)).2.used), .val (.int .u64 ((apsD a.r (flD a.d) a.l (a.t.take a1)).2.first)), aI ((apsD a.r (flD a.d) a.l (a.t.take a1)).2.many)])]⟩, fun a1 => a.t.length - a1, fun a1 => a1 ≤ a.t.length⟩
 .lp L1 0 (show 0 ≤ a.t.length from Nat.zero_le _) [(12, aI 0)] [(10, .box b5 25 [.sl 1 false ((flD a.d).kept.map txA), .sl 2 false ((flD a.d).w.map putA), aB ((flD a.d).off)]), (11, .box b6 30 [aI a.l.at_, aI a.l.used, .val (.int .u64 a.l.first), aI a.l.many])] ⟨Sub.refl _, Sub.refl _, Sub.refl _, Sub.refl _, Sub.refl _, Sub.refl _, Sub.refl _, sO, trivial⟩ ⟨sB, sB, ⟨_, rfl, SubB.refl _⟩, ⟨_, rfl, SubB.refl _⟩, trivial⟩ fun a1 ha1 =>
 (fun (k : Nat) (hH1 : k ≤ a.t.length) => have hci := aps_inv hflr hflo (show (flD a.d).w = [] from rfl) hts k; have hcb := hci.bd hfk; have hcl := hci.len; have hck := hcb.2.1; .r 3 <| .lm 60 a.t txA <| .r 1 <| .bd 61 ((k : Int) < (a.t.length : Int)) (fun p5 => .ord [0, 1, 2, 3, 4, 5, 6, 7, 8, 9, 10, 11, 12, 13] <| .u 5 [b5, b3, b6] <|
 .idxM a.t txA k (m := (k : Int)) rfl (by omega) fun x1 hx1 =>
 have hx4 := hts x1 (List.mem_of_getElem? hx1); .r 1 <| .call (append_spec (apsD a.r (flD a.d) a.l (a.t.take k)).1 a.r (apsD a.r (flD a.d) a.l (a.t.take k)).2 x1 h.r hcb.1 (by omega) (by omega) hcb.2.2.1 hcb.2.2.2.1 hcb.2.2.2.2.1 hcb.2.2.2.2.2 (by omega)) <|
 .u 6 [b5, b6] <|
 .run 3 [rng .i64 ((k : Int) + 1)] ⟨rng64 (by omega) (by omega), trivial⟩ <|
 .bk L1 k (k + 1) (show (k + 1) ≤ a.t.length from (by show _ ≤ _; omega)) (show a.t.length - (k + 1) < a.t.length - k from (by omega)) [(12, aI ((k : Int) + 1))] [(10, .box b5 25 [.sl 1 false ((appD (apsD a.r (flD a.d) a.l (a.t.take k)).1 a.r (apsD a.r (flD a.d) a.l (a.t.take k)).2 x1).1.kept.map txA), .sl 2 false ((appD (apsD a.r (flD a.d) a.l (a.t.take k)).1 a.r (apsD a.r (flD a.d) a.l (a.t.take k)).2 x1).1.w.map putA), aB ((appD (apsD a.r (flD a.d) a.l (a.t.take k)).1 a.r (apsD a.r (flD a.d) a.l (a.t.take k)).2 x1).1.off)]), (11, .box b6 30 [aI ((appD (apsD a.r (flD a.d) a.l (a.t.take k)).1 a.r (apsD a.r (flD a.d) a.l (a.t.take k)).2 x1).2.1.at_), aI ((appD (apsD a.r (flD a.d) a.l (a.t.take k)).1 a.r (apsD a.r (flD a.d) a.l (a.t.take k)).2 x1).2.1.used), .val (.int .u64 ((appD (apsD a.r (flD a.d) a.l (a.t.take k)).1 a.r (apsD a.r (flD a.d) a.l (a.t.take k)).2 x1).2.1.first)), aI ((appD (apsD a.r (flD a.d) a.l (a.t.take k)).1 a.r (apsD a.r (flD a.d) a.l (a.t.take k)).2 x1).2.1.many)])] ⟨Sub.refl _, Sub.refl _, Sub.refl _, Sub.refl _, Sub.refl _, Sub.refl _, Sub.refl _, sO, trivial⟩ ⟨sB, sB, ⟨_, rfl, SubB.of_eq (congrArg (fun y : Dsk × Lg => Bx.box b5 25 (dskA y.1)) (aps_step hx1).symm)⟩, ⟨_, rfl, SubB.of_eq (congrArg (fun y : Dsk × Lg => Bx.box b6 30 (lgA y.2)) (aps_step hx1).symm)⟩, trivial⟩)
 <| fun p5 => .ex (hci.texts hlm) fun all hall =>
 have hcrr := crD_right hci.right a.k; have hck2 : (crD (apsD a.r (flD a.d) a.l (a.t.take k)).1 a.k).kept.length ≤ 40 := (by show (crK _ _ _ _).length ≤ 40; rw [crK_len]; exact hck); have hcro := hci.crash hflr rfl hflo a.k; .ex (scan_ok hcro hcrr (by omega)) fun t4 hsc =>
 have hasm := (hall.1.small (by omega)).2.1; have hall2 := hall.2; have hsc2 := hsc.2.1; have hs4 := (hsc.1.2.small (by omega)).2.1; .u 3 [b5, b3, b6] <|
 .call (texts_ok hall.1 hci.right (by omega) (by omega) h.r) <|
 .r 5 <| let J1 : Jn (Nat) := ⟨fun j1 => ⟨[(5, .ptr 5 b4 0), (8, aB true), (11, .ptr 11 b6 0), (13, .sl 1 false (all.map txA)), (15, .ptr 15 j1 0), (16, .sl 1 false (t4.map txA)), (17, aI 0)], [(5, .box b4 30 [aI a.l.at_, aI a.l.used, .val (.int .u64 a.l.first), aI a.l.many]), (11, .box b6 30 [aI ((apsD a.r (flD a.d) a.l (a.t.take k)).2.at_), aI ((apsD a.r (flD a.d) a.l (a.t.take k)).2.used), .val (.int .u64 ((apsD a.r (flD a.d) a.l (a.t.take k)).2.first)), aI ((apsD a.r (flD a.d) a.l (a.t.take k)).2.many)]), (15, .box j1 30 [aI ((lgW (lg0 a.r a.l.at_ a.l.first) t4).at_), aI ((lgW (lg0 a.r a.l.at_ a.l.first) t4).used), .val (.int .u64 ((lgW (lg0 a.r a.l.at_ a.l.first) t4).first)), aI ((lgW (lg0 a.r a.l.at_ a.l.first) t4).many)])]⟩, fun _ => True⟩
 .cut J1 (.pick [0, 1, 3, 4, 5, 6, 7] <| .u 7 [b5, b3, b4, b4] <|
 .fork <| .alt (.call (crash_spec (apsD a.r (flD a.d) a.l (a.t.take k)).1 a.k hci.right (by omega) h.k) <|
 .fork <| .alt (.call (scan_callZ hsc.1.1 hcrr (by omega) (by show 0 ≤ 5000000; decide) h.r h.l.a h.l.f) <|
 .pick [9, 10, 11, 12, 13, 14, 15, 16] <| .r 4 <| .new fun b7 => .u 3 [b7] <|
 .jo J1 b7 [] [] ⟨Sub.refl _, Sub.refl _, Sub.refl _, Sub.refl _, Sub.refl _, Sub.refl _, Sub.refl _, trivial⟩ bb3)
 <| .new fun b8 => .pick [8, 9, 10, 11, 12, 14, 15, 16] <| .call (scan_callZ hsc.1.1 hcrr (by omega) (by show 0 ≤ 5000000; decide) h.r h.l.a h.l.f) <|
 .u 7 [b8] <|
 .jo J1 b8 [] [] ⟨Sub.refl _, Sub.refl _, Sub.refl _, Sub.refl _, Sub.refl _, Sub.refl _, Sub.refl _, trivial⟩ bb3)
 <| .new fun b9 => .pick [2, 8, 9, 10, 11, 12, 14, 15, 16] <| .call (crash_spec (apsD a.r (flD a.d) a.l (a.t.take k)).1 a.k hci.right (by omega) h.k) <|
 .call (scan_callZ hsc.1.1 hcrr (by omega) (by show 0 ≤ 5000000; decide) h.r h.l.a h.l.f) <|
 .u 7 [b9] <|
 .jo J1 b9 [] [] ⟨Sub.refl _, Sub.refl _, Sub.refl _, Sub.refl _, Sub.refl _, Sub.refl _, Sub.refl _, trivial⟩ bb3)
 <| fun j1 _ => (fun (b10 : Nat) => .r 3 <| .is 98 (show (0 != 0) = false from (by decide)) <| .r 2 <| .lm 100 all txA <| .u 5 [b6] <|
 .is 105 (show ((all.length : Int) != ((apsD a.r (flD a.d) a.l (a.t.take k)).2.many)) = false from (bne_eq_false_iff_eq.2 hall.2.2.symm)) <| .u 6 [b6, b4] <|
 .is 111 (show (decide (((apsD a.r (flD a.d) a.l (a.t.take k)).2.many) < a.l.many)) = false from (decide_eq_false (by omega))) <| .r 2 <| .lm 113 t4 txA <| .r 2 <| .lm 115 all txA <| .r 2 <| .bd 117 ((t4.length : Int) > (all.length : Int)) (fun p6 => .r 8 <| .r 2 <| .fi (aB true) [])
 <| fun p6 => .r 4 <| .lm 121 t4 txA <| .slc 1 false (all.map txA) none (some (t4.length : Int)) none 0 t4.length false (.inl ⟨rfl, rfl⟩) (.inr rfl) (.inl ⟨rfl, fun h => by cases h⟩) (by first | omega | (simp; done) | (simp; omega)) (by first | omega | (simp; done) | (simp; omega)) <|
 .cs (args0 := [.sl 1 false (t4.map txA), .sl 1 false (((all.map txA).take t4.length).drop 0)]) (rstrs_spec t4 (all.take t4.length) (by omega) (by rw [List.length_take]; omega)) ⟨Sub.refl _, Sub.of_eq (congrArg (AV.sl 1 false) (by simp [List.map_take])), trivial⟩ <|
 .r 2 <| .nbb 125 (dP (t4 = all.take t4.length)) (fun p7 => .r 2 <| .fi (aB true) [])
 <| fun p7 => .u 6 [b10] <|
 .lm 132 t4 txA <| .r 3 <| .is 135 (show (((lgW (lg0 a.r a.l.at_ a.l.first) t4).many) == (t4.length : Int)) = true from (by show ((t4.length : Int) == (t4.length : Int)) = true; exact beq_self_eq_true _)) <| .r 2 <| .lm 137 t4 txA <| .u 5 [b4] <|
 .f (aB true) [] (aB (decide ((t4.length : Int) ≥ a.l.many))) (by exact Sub.of_eq (congrArg aB (decide_eq_true hsc2)))) j1) a1 ha1)
end Go.Proofs.YtlcepboedifniaaGreatDoor
