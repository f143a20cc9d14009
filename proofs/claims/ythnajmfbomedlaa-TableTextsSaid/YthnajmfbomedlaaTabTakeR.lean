/- copyholdref14.Take: the document's own answer, for every text; old memory is as it was. -/
import Derived.Test.YthnajmfbomedlaaTabTextR
import Derived.Test.YthnajmfbomedlaaTabTake
import Derived.Test.YthnajmfbomedlaaTabRight
set_option linter.unusedVariables false
set_option linter.unusedSimpArgs false
namespace Go.Proofs.Ythnajmfbomedlaa
open Go.RowKit Copyhold

theorem take_stop {n k : Nat} {acc : List TRow} {o : Bool} {t : List UInt8} {Q : (List TRow × Bool) × List UInt8 × Int} {x : Int} (hk : k < n) (h : takeRs (n - k) acc o t = Q) (he : (takeRow o t).2.2 = x) (hx : x ≠ 0) : endT Q = ([], x) := by
  rw [show n - k = (n - (k + 1)) + 1 by omega, takeRs, thenP_no (by rw [he]; exact hx)] at h
  subst h
  unfold endT
  simp only
  rw [he, if_pos hx]
theorem take_go {n k : Nat} {acc : List TRow} {o : Bool} {t : List UInt8} {Q : (List TRow × Bool) × List UInt8 × Int} {r : TRow} {o2 : Bool} {t2 : List UInt8} (hk : k < n) (h : takeRs (n - k) acc o t = Q) (he : takeRow o t = ((r, o2), t2, 0)) : takeRs (n - (k + 1)) (acc ++ [r]) o2 t2 = Q := by
  rw [show n - k = (n - (k + 1)) + 1 by omega, takeRs, he] at h
  exact h

set_option maxRecDepth 100000 in
set_option maxHeartbeats 32000000 in
theorem ref14_Take (l : List UInt8) (w : World) (hl : l.length ≤ 140737488355328) :
    Calls Try.prog 23 #[.string ⟨l.toArray⟩] w (RetTake w (takeT l)) := by
  have hbd := takeNum_bd l
  have hT : takeT l = endT (thenP ([], false) (takeCount l 64) fun m s => takeRs m [] false s) := rfl
  unfold takeCount at hT
  have HC := Lib.hid (ref_TakeNum l w hl)
  generalize takeNum l = x at *
  obtain ⟨n, s4, e⟩ := x
  simp only at hT HC hbd
  obtain ⟨b1, b2, b3, b4⟩ := hbd
  have hl4 : s4.length ≤ 140737488355328 := by omega
  have HT := Lib.hid hT
  clear hT
  go_enter Try.func23, Try.ntmps23
  go_wp2_with fail
  refine HC.out.mono ?_
  rintro ee w1 ⟨rfl, hb1⟩
  have HB1 := Lib.hid hb1
  clear hb1
  by_cases he : e ≠ 0
  · have hne : (e == 0) = false := by simpa using he
    have hne2 : (e != 0) = true := by simpa using he
    have HF := Lib.hid (show takeT l = ([], e) from by
      rw [HT.out, if_pos he, thenP_no he]
      unfold endT
      rw [if_pos he])
    clear he
    go_wp2_with fail
    go_ret2
    exact ⟨none, 0, by rw [HF.out]; rfl, by rw [HF.out]; exact rowsIn_nil _, HB1.out⟩
  obtain rfl : e = 0 := by simpa using he
  clear he
  by_cases hn : 64 < n
  · have HF := Lib.hid (show takeT l = ([], 5) from by
      rw [HT.out, if_neg (by simp), if_pos (.inr (by omega)), thenP_no (by decide)]
      rfl)
    have hn2 : (64 : Int) < (n : Int) := by omega
    go_wp2_with fail
    go_ret2
    exact ⟨none, 0, by rw [HF.out]; rfl, by rw [HF.out]; exact rowsIn_nil _, HB1.out⟩
  have hn2 : ¬ (64 : Int) < (n : Int) := by omega
  obtain ⟨Q, hQ⟩ : ∃ Q, takeRs n [] false s4 = Q := ⟨_, rfl⟩
  have HTT := Lib.hid (show takeT l = endT Q from by
    rw [HT.out, if_neg (by simp), if_neg (by omega), thenP_ok rfl, hQ])
  have HQ := Lib.hid hQ
  clear hQ HT HC
  go_wp2_with fail
  go_loopw [6, 7, 8, 0] (fun sl so si st wr => ∃ (k : Nat) (acc : List TRow) (o1 : Bool) (t : List UInt8), si = .int .u64 k ∧ k ≤ n ∧ acc.length = k ∧ so = .bool o1 ∧ st = .string ⟨t.toArray⟩ ∧ takeRs (n - k) acc o1 t = Q ∧ t.length ≤ 140737488355328 ∧ (∀ r ∈ acc, RowT r) ∧ OwnT wr w.heap.size sl acc ∧ Below w.heap.size w wr) (fun _ _ si _ _ => n - (intOf si).toNat)
  case atStart => exact ⟨0, [], false, s4, rfl, Nat.zero_le _, rfl, rfl, rfl, HQ.out, hl4, (fun r hr => by cases hr), OwnT.nil _ _, HB1.out⟩
  case round =>
    clear HB1 HQ
    rename World => wo
    obtain ⟨k, acc, o1, t, rfl, hk, hacc, rfl, rfl, hst, hlt, hrt, hown, hb⟩ := hrel
    obtain ⟨A5, c5, rfl⟩ := hown.is
    have HX := Lib.hid (And.intro hown hb)
    have HST := Lib.hid hst
    have HACC := Lib.hid hacc
    have HRT := Lib.hid hrt
    clear hown hb hst hacc hrt
    have hal : acc.length ≤ 64 := by rw [HACC.out]; omega
    by_cases hkn : k < n
    · have hki : (k : Int) < (n : Int) := by omega
      have HR0 : Hid (takeRow o1 t = thenP (row0, false) (takeWhole t) fun c s => thenP (row0, false) (takeWhole s) fun e s => thenP (row0, false) (takeWhole s) fun d s => thenP (row0, false) (takeCount s 256) fun m s => thenP (row0, false) (takeDs m [] o1 s) fun x s => ((⟨c, e, d, x.1⟩, x.2), s, 0)) := Lib.hid rfl
      have bd1 := takeWhole_bd t
      have HC1 := Lib.hid (fun W => ref07_Whole t W (by omega))
      have HP1 := HR0.out
      generalize takeWhole t = x1 at *
      obtain ⟨c, s1, e1⟩ := x1
      simp only at HC1 HP1 bd1
      have hs1 : s1.length ≤ 140737488355328 := by omega
      have HBD1 := Lib.hid bd1.1
      have HQ1 := Lib.hid HP1
      clear HP1 bd1
      go_wp2_with fail
      refine (HC1.out _).mono ?_
      rintro ee w1 ⟨rfl, hb1⟩
      have HB1 := Lib.hid (below_trans HX.out.2 hb1 HX.out.2.size)
      have HO1 := Lib.hid (HX.out.1.below hb1)
      clear hb1
      by_cases he1 : e1 ≠ 0
      · have hne : (e1 == 0) = false := by simpa using he1
        have hne2 : (e1 != 0) = true := by simpa using he1
        have HF := Lib.hid (show takeT l = ([], e1) from by
          rw [HTT.out]
          exact take_stop hkn HST.out (by rw [HQ1.out, thenP_no he1]) he1)
        clear he1
        go_wp2_with fail
        go_ret2
        exact ⟨none, 0, by rw [HF.out]; rfl, by rw [HF.out]; exact rowsIn_nil _, HB1.out⟩
      obtain rfl : e1 = 0 := by simpa using he1
      clear he1
      have HR1 := Lib.hid (HQ1.out.trans (thenP_ok rfl))
      simp only at HR1
      clear HQ1
      have bd2 := takeWhole_bd s1
      have HC2 := Lib.hid (fun W => ref07_Whole s1 W (by omega))
      have HP2 := HR1.out
      generalize takeWhole s1 = x2 at *
      obtain ⟨ep, s2, e2⟩ := x2
      simp only at HC2 HP2 bd2
      have hs2 : s2.length ≤ 140737488355328 := by omega
      have HBD2 := Lib.hid bd2.1
      have HQ2 := Lib.hid HP2
      clear HP2 bd2
      go_wp2_with fail
      refine (HC2.out _).mono ?_
      rintro ee w2 ⟨rfl, hb2⟩
      have HB2 := Lib.hid (below_trans HB1.out hb2 HB1.out.size)
      have HO2 := Lib.hid (HO1.out.below hb2)
      clear hb2
      by_cases he2 : e2 ≠ 0
      · have hne : (e2 == 0) = false := by simpa using he2
        have hne2 : (e2 != 0) = true := by simpa using he2
        have HF := Lib.hid (show takeT l = ([], e2) from by
          rw [HTT.out]
          exact take_stop hkn HST.out (by rw [HQ2.out, thenP_no he2]) he2)
        clear he2
        go_wp2_with fail
        go_ret2
        exact ⟨none, 0, by rw [HF.out]; rfl, by rw [HF.out]; exact rowsIn_nil _, HB2.out⟩
      obtain rfl : e2 = 0 := by simpa using he2
      clear he2
      have HR2 := Lib.hid (HQ2.out.trans (thenP_ok rfl))
      simp only at HR2
      clear HQ2
      have bd3 := takeWhole_bd s2
      have HC3 := Lib.hid (fun W => ref07_Whole s2 W (by omega))
      have HP3 := HR2.out
      generalize takeWhole s2 = x3 at *
      obtain ⟨d, s3, e3⟩ := x3
      simp only at HC3 HP3 bd3
      have hs3 : s3.length ≤ 140737488355328 := by omega
      have HBD3 := Lib.hid bd3.1
      have HQ3 := Lib.hid HP3
      clear HP3 bd3
      go_wp2_with fail
      refine (HC3.out _).mono ?_
      rintro ee w3 ⟨rfl, hb3⟩
      have HB3 := Lib.hid (below_trans HB2.out hb3 HB2.out.size)
      have HO3 := Lib.hid (HO2.out.below hb3)
      clear hb3
      by_cases he3 : e3 ≠ 0
      · have hne : (e3 == 0) = false := by simpa using he3
        have hne2 : (e3 != 0) = true := by simpa using he3
        have HF := Lib.hid (show takeT l = ([], e3) from by
          rw [HTT.out]
          exact take_stop hkn HST.out (by rw [HQ3.out, thenP_no he3]) he3)
        clear he3
        go_wp2_with fail
        go_ret2
        exact ⟨none, 0, by rw [HF.out]; rfl, by rw [HF.out]; exact rowsIn_nil _, HB3.out⟩
      obtain rfl : e3 = 0 := by simpa using he3
      clear he3
      have HR3 := Lib.hid (HQ3.out.trans (thenP_ok rfl))
      simp only at HR3
      clear HQ3
      have bd4 := takeNum_bd s3
      have HC4 := Lib.hid (fun W => ref_TakeNum s3 W (by omega))
      have HP4 := HR3.out
      unfold takeCount at HP4
      generalize takeNum s3 = x4 at *
      obtain ⟨m, s5, e4⟩ := x4
      simp only at HC4 HP4 bd4
      have hs5 : s5.length ≤ 140737488355328 := by omega
      have hmb : m < 18446744073709551616 := bd4.1
      have HQ4 := Lib.hid HP4
      clear HP4 bd4
      go_wp2_with fail
      refine (HC4.out _).mono ?_
      rintro ee wa ⟨rfl, hb4⟩
      have HB4 := Lib.hid (below_trans HB3.out hb4 HB3.out.size)
      have HO4 := Lib.hid (HO3.out.below hb4)
      clear hb4
      by_cases he4 : e4 ≠ 0
      · have hne : (e4 == 0) = false := by simpa using he4
        have hne2 : (e4 != 0) = true := by simpa using he4
        have HF := Lib.hid (show takeT l = ([], e4) from by
          rw [HTT.out]
          exact take_stop hkn HST.out (by rw [HQ4.out, if_pos he4, thenP_no he4]) he4)
        clear he4
        go_wp2_with fail
        go_ret2
        exact ⟨none, 0, by rw [HF.out]; rfl, by rw [HF.out]; exact rowsIn_nil _, HB4.out⟩
      obtain rfl : e4 = 0 := by simpa using he4
      clear he4
      by_cases hm : 256 < m
      · have HF := Lib.hid (show takeT l = ([], 5) from by
          rw [HTT.out]
          exact take_stop hkn HST.out (by rw [HQ4.out, if_neg (by simp), if_pos (.inr (by omega)), thenP_no (by decide)]) (by decide))
        have hm2 : (256 : Int) < (m : Int) := by omega
        go_wp2_with fail
        go_ret2
        exact ⟨none, 0, by rw [HF.out]; rfl, by rw [HF.out]; exact rowsIn_nil _, HB4.out⟩
      have hm2 : ¬ (256 : Int) < (m : Int) := by omega
      obtain ⟨D, hD⟩ : ∃ D, takeDs m [] o1 s5 = D := ⟨_, rfl⟩
      have HRD := Lib.hid (show takeRow o1 t = thenP (row0, false) D fun x s => ((⟨c, ep, d, x.1⟩, x.2), s, 0) from by
        rw [HQ4.out, if_neg (by simp), if_neg (by omega), thenP_ok rfl, hD])
      have HD := Lib.hid hD
      clear hD HQ4 HC1 HC2 HC3 HC4 HR0 HR1 HR2 HR3
      obtain ⟨W2, hW2⟩ : ∃ W2, W2 = wa.alloc (.cells #[.int .i64 c, .int .i64 ep, .int .i64 d, .slice none 0 0] 63) := ⟨_, rfl⟩
      have HT2 := Lib.hid (show TBox W2 wa.heap.size 63 #[.int .i64 c, .int .i64 ep, .int .i64 d, .slice none 0 0] ∧ Below wa.heap.size wa W2 from by rw [hW2]; exact ⟨TBox.new _ _ _, (Below.refl _ _).alloc (Nat.le_refl _) _⟩)
      have HW2 := Lib.hid hW2
      clear hW2
      go_wp2_with fail
      rw [← HW2.out]
      go_loopw [7, 22, 0] (fun so sj st wr => ∃ (j : Nat) (ds : List (Int × Bool)) (o2 : Bool) (t2 : List UInt8) (sv : Value), sj = .int .u64 j ∧ j ≤ m ∧ ds.length = j ∧ so = .bool o2 ∧ st = .string ⟨t2.toArray⟩ ∧ takeDs (m - j) ds o2 t2 = D ∧ t2.length ≤ 140737488355328 ∧ (∀ q ∈ ds, i64ok q.1) ∧ wr.ownsRow (wa.heap.size + 1) 65 2 sv j (ds.flatMap decC) ∧ TBox wr wa.heap.size 63 #[.int .i64 c, .int .i64 ep, .int .i64 d, sv] ∧ Below wa.heap.size wa wr) (fun _ sj _ _ => m - (intOf sj).toNat)
      case atStart => exact ⟨0, [], o1, s5, _, rfl, Nat.zero_le _, rfl, rfl, rfl, HD.out, hs5, (fun r hr => by cases hr), World.ownsRow_nil _ _ _ _, HT2.out.1, HT2.out.2⟩
      case round =>
        clear HD HT2
        rename World => wi
        obtain ⟨j, ds, o2, t2, sv, rfl, hj, hds, rfl, rfl, hdt, hlt2, hdo, hown, htb, hbj⟩ := hrel
        obtain ⟨A7, c7, rfl, -, -⟩ := (Sl.of_owns hown).shape
        have HY := Lib.hid (And.intro hown (And.intro htb hbj))
        have HDT := Lib.hid hdt
        have HDS := Lib.hid hds
        have HDO := Lib.hid hdo
        have g3 : wi.cell? ⟨wa.heap.size, 3, none⟩ = some (.slice A7 j c7) := htb.cell 3
        have hsi : wa.heap.size < wi.heap.size := htb.lt
        clear hown htb hbj hdt hds hdo
        by_cases hjm : j < m
        · have hji : (j : Int) < (m : Int) := by omega
          have HU : Hid (takeDs (m - j) ds o2 t2 = thenP ([], false) (takeWhole t2) fun q s => thenP ([], false) (takeNum s) fun y s => takeDs (m - (j + 1)) (ds ++ [(q, y == 1)]) (o2 || decide (1 < y)) s) := Lib.hid (by rw [show m - j = (m - (j + 1)) + 1 by omega]; rfl)
          have bd5 := takeWhole_bd t2
          have HC5 := Lib.hid (fun W => ref07_Whole t2 W (by omega))
          have HP5 := HU.out
          generalize takeWhole t2 = x5 at *
          obtain ⟨q, t3, e5⟩ := x5
          simp only at HC5 HP5 bd5
          have ht3 : t3.length ≤ 140737488355328 := by omega
          have HBQ := Lib.hid bd5.1
          have HQ5 := Lib.hid HP5
          clear HP5 bd5 HU
          go_wp2_with fail
          refine (HC5.out _).mono ?_
          rintro ee w5 ⟨rfl, hb5⟩
          have HY5 := Lib.hid (show w5.ownsRow (wa.heap.size + 1) 65 2 (.slice A7 j c7) j (ds.flatMap decC) ∧ TBox w5 wa.heap.size 63 #[.int .i64 c, .int .i64 ep, .int .i64 d, .slice A7 j c7] ∧ Below wa.heap.size wa w5 from ⟨owns_below HY.out.1 hb5, HY.out.2.1.below hb5, below_trans HY.out.2.2 hb5 HY.out.2.2.size⟩)
          clear hb5
          by_cases he5 : e5 ≠ 0
          · have hne : (e5 == 0) = false := by simpa using he5
            have hne2 : (e5 != 0) = true := by simpa using he5
            have HF := Lib.hid (show takeT l = ([], e5) from by
              rw [HTT.out]
              refine take_stop hkn HST.out ?_ he5
              rw [HRD.out, ← HDT.out, HQ5.out]
              simp only [thenP, if_neg he5])
            clear he5
            go_wp2_with fail
            go_ret2
            exact ⟨none, 0, by rw [HF.out]; rfl, by rw [HF.out]; exact rowsIn_nil _, below_trans HB4.out HY5.out.2.2 HB4.out.size⟩
          obtain rfl : e5 = 0 := by simpa using he5
          clear he5
          have HR5 := Lib.hid (HQ5.out.trans (thenP_ok rfl))
          simp only at HR5
          clear HQ5
          have bd6 := takeNum_bd t3
          have HC6 := Lib.hid (fun W => ref_TakeNum t3 W (by omega))
          have HP6 := HR5.out
          generalize takeNum t3 = x6 at *
          obtain ⟨y, t4, e6⟩ := x6
          simp only at HC6 HP6 bd6
          have ht4 : t4.length ≤ 140737488355328 := by omega
          have hyb : y < 18446744073709551616 := bd6.1
          have HQ6 := Lib.hid HP6
          clear HP6 bd6 HR5
          go_wp2_with fail
          refine (HC6.out _).mono ?_
          rintro ee w6 ⟨rfl, hb6⟩
          have HY6 := Lib.hid (show w6.ownsRow (wa.heap.size + 1) 65 2 (.slice A7 j c7) j (ds.flatMap decC) ∧ TBox w6 wa.heap.size 63 #[.int .i64 c, .int .i64 ep, .int .i64 d, .slice A7 j c7] ∧ Below wa.heap.size wa w6 from ⟨owns_below HY5.out.1 hb6, HY5.out.2.1.below hb6, below_trans HY5.out.2.2 hb6 HY5.out.2.2.size⟩)
          clear hb6
          by_cases he6 : e6 ≠ 0
          · have hne : (e6 == 0) = false := by simpa using he6
            have hne2 : (e6 != 0) = true := by simpa using he6
            have HF := Lib.hid (show takeT l = ([], e6) from by
              rw [HTT.out]
              refine take_stop hkn HST.out ?_ he6
              rw [HRD.out, ← HDT.out, HQ6.out]
              simp only [thenP, if_neg he6])
            clear he6
            go_wp2_with fail
            go_ret2
            exact ⟨none, 0, by rw [HF.out]; rfl, by rw [HF.out]; exact rowsIn_nil _, below_trans HB4.out HY6.out.2.2 HB4.out.size⟩
          obtain rfl : e6 = 0 := by simpa using he6
          clear he6
          have HR6 := Lib.hid (show takeDs (m - (j + 1)) (ds ++ [(q, (y : Int) == 1)]) (o2 || decide (1 < (y : Int))) t4 = D from by
            have h := HQ6.out
            rw [thenP_ok rfl] at h
            simp only at h
            rw [← HDT.out, h]
            congr 2
            · congr 2
              rw [Bool.eq_iff_iff]; simp only [beq_iff_eq]; omega
            · rw [decide_eq_decide]; omega)
          clear HQ6
          have x3 : w6.cell? ⟨wa.heap.size, 3, none⟩ = some (.slice A7 j c7) := HY6.out.2.1.cell 3
          have f3 : w6.frozen? ⟨wa.heap.size, 3, none⟩ = false := HY6.out.2.1.free 3
          have hs6 : wa.heap.size < w6.heap.size := HY6.out.2.1.lt
          obtain ⟨yb, hyb2⟩ : ∃ yb, yb = ((y : Int) == 1) := ⟨_, rfl⟩
          rw [← hyb2] at HR6
          obtain ⟨v', w7, hrun, ho7, hk7, hs7, hb7⟩ := app_dec (w3 := w6) (base := wa.heap.size + 1) (q, yb) HY6.out.1 (by omega) hs6
          obtain ⟨A8, c8, rfl, -, -⟩ := (Sl.of_owns ho7).shape
          have t7 : TBox w7 wa.heap.size 63 #[.int .i64 c, .int .i64 ep, .int .i64 d, .slice A7 j c7] := by
            have := HY6.out.2.1
            unfold TBox at this ⊢
            rw [hk7 _ (by omega)]
            exact this
          have x7 : w7.cell? ⟨wa.heap.size, 3, none⟩ = some (.slice A7 j c7) := t7.cell 3
          have f7 : w7.frozen? ⟨wa.heap.size, 3, none⟩ = false := t7.free 3
          have HZ := Lib.hid (show (w7.setCell ⟨wa.heap.size, 3, none⟩ (.slice A8 (j + 1) c8)).ownsRow (wa.heap.size + 1) 65 2 (.slice A8 (j + 1) c8) (j + 1) ((ds ++ [(q, yb)]).flatMap decC) ∧ TBox (w7.setCell ⟨wa.heap.size, 3, none⟩ (.slice A8 (j + 1) c8)) wa.heap.size 63 #[.int .i64 c, .int .i64 ep, .int .i64 d, .slice A8 (j + 1) c8] ∧ Below wa.heap.size wa (w7.setCell ⟨wa.heap.size, 3, none⟩ (.slice A8 (j + 1) c8)) from by
            refine ⟨?_, t7.set 3 _, (hb7 _ _ HY6.out.2.2 (by omega)).setCell (p := ⟨wa.heap.size, 3, none⟩) (Nat.le_refl _) _⟩
            have := owns_setCell ho7 ⟨wa.heap.size, 3, none⟩ (.slice A8 (j + 1) c8) (by simp)
            rw [List.flatMap_append]
            simpa using this)
          have HDO2 := Lib.hid (show ∀ p ∈ ds ++ [(q, yb)], i64ok p.1 from fun p hp => by
            rcases List.mem_append.1 hp with hp | hp
            · exact HDO.out p hp
            · rw [List.mem_singleton.1 hp]
              exact HBQ.out)
          simp only at hrun
          rw [hyb2] at hrun
          clear ho7 hk7 hs7 hb7 t7 hyb2
          cases o2
          · go_wp2_with (at_builtin; refine wpList_append_run rfl _ _ _ rfl _ _ _ _ rfl rfl hrun ?_)
            go_roundw
            case rel => exact ⟨j + 1, ds ++ [(q, yb)], _, t4, _, by go_num, by omega, by rw [List.length_append, HDS.out]; rfl, rfl, rfl, HR6.out, ht4, HDO2.out, HZ.out⟩
            case measure => simp [intOf]; omega
          · go_wp2_with (at_builtin; refine wpList_append_run rfl _ _ _ rfl _ _ _ _ rfl rfl hrun ?_)
            go_roundw
            case rel => exact ⟨j + 1, ds ++ [(q, yb)], _, t4, _, by go_num, by omega, by rw [List.length_append, HDS.out]; rfl, rfl, rfl, HR6.out, ht4, HDO2.out, HZ.out⟩
            case measure => simp [intOf]; omega
        · obtain rfl : j = m := by omega
          have hfin := HDT.out
          rw [Nat.sub_self] at hfin
          unfold takeDs at hfin
          subst hfin
          have hrow : takeRow o1 t = ((⟨c, ep, d, ds⟩, o2), t2, 0) := by rw [HRD.out, thenP_ok rfl]
          have HGO := Lib.hid (take_go hkn HST.out hrow)
          have hRT : RowT ⟨c, ep, d, ds⟩ := ⟨HBD1.out, HBD2.out, HBD3.out, by simp only; rw [HDS.out]; omega, HDO.out⟩
          have HRT2 := Lib.hid hRT
          clear hrow hRT
          have hji : ¬ (j : Int) < (j : Int) := by omega
          have g0 : wi.cell? ⟨wa.heap.size, 0, none⟩ = some (.int .i64 c) := HY.out.2.1.cell 0
          have g1 : wi.cell? ⟨wa.heap.size, 1, none⟩ = some (.int .i64 ep) := HY.out.2.1.cell 1
          have g2 : wi.cell? ⟨wa.heap.size, 2, none⟩ = some (.int .i64 d) := HY.out.2.1.cell 2
          obtain ⟨v', w7, hrun, hO7, hk7, hs7, hb7⟩ := (HO4.out.below HY.out.2.2).push (by omega) ⟨c, ep, d, ds⟩ A7 c7 (by simp only; rw [HDS.out]; exact owns_less HY.out.1 (Nat.le_trans HB4.out.size (Nat.le_succ _))) HRT2.out (Nat.le_trans HB4.out.size HY.out.2.2.size)
          simp only at hrun
          rw [HDS.out] at hrun
          have HZ := Lib.hid (And.intro hO7 (hb7 _ _ (below_trans HB4.out HY.out.2.2 HB4.out.size) (Nat.le_refl _)))
          have HRT3 := Lib.hid (show ∀ r ∈ acc ++ [⟨c, ep, d, ds⟩], RowT r from fun r hr => by
            rcases List.mem_append.1 hr with hr | hr
            · exact HRT.out r hr
            · rw [List.mem_singleton.1 hr]
              exact HRT2.out)
          clear hO7 hk7 hs7 hb7
          go_wp2_with (at_builtin; refine wpList_append_run rfl _ _ _ rfl _ _ _ _ rfl rfl hrun ?_)
          go_roundw
          case rel => exact ⟨k + 1, acc ++ [⟨c, ep, d, ds⟩], o2, t2, by go_num, by omega, by rw [List.length_append, HACC.out]; rfl, rfl, rfl, HGO.out, hlt2, HRT3.out, HZ.out⟩
          case measure => simp [intOf]; omega
    · obtain rfl : k = n := by omega
      have hfin := HST.out
      rw [Nat.sub_self] at hfin
      unfold takeRs at hfin
      subst hfin
      have hki : ¬ (k : Int) < (k : Int) := by omega
      have HT2 := Lib.hid (show takeT l = if o1 = true ∨ t ≠ [] ∨ goodB acc = false then ([], 3) else (acc, 0) from HTT.out)
      have hrl : ∀ r ∈ acc, r.l.length ≤ 100000 := fun r hr => by have := (HRT.out r hr).2.2.2.1; omega
      have HGB := Lib.hid (HX.out.1.rows)
      have HRR := Lib.hid (ref14_Right acc _ wo HGB.out (by omega) hrl)
      clear hrl
      by_cases hbad : o1 = true ∨ t ≠ [] ∨ goodB acc = false
      · have HF := Lib.hid (show takeT l = ([], 3) from by rw [HT2.out, if_pos hbad])
        have hways : (o1 = true) ∨ (o1 = false ∧ ∃ x tl, t = x :: tl) ∨ (o1 = false ∧ t = [] ∧ goodB acc = false) := by
          cases o1
          · cases t with
            | nil => exact .inr (.inr ⟨rfl, rfl, by simpa using hbad⟩)
            | cons x tl => exact .inr (.inl ⟨rfl, x, tl, rfl⟩)
          · exact .inl rfl
        clear hbad
        rcases hways with rfl | ⟨rfl, x, tl, rfl⟩ | ⟨rfl, rfl, hg⟩
        · go_wp2_with fail
          refine HRR.out.mono ?_
          rintro e w5 ⟨rfl, hb5⟩
          have HB5 := Lib.hid (below_trans HX.out.2 hb5 HX.out.2.size)
          clear hb5
          go_wp2_with fail
          go_ret2
          exact ⟨none, 0, by rw [HF.out]; rfl, by rw [HF.out]; exact rowsIn_nil _, HB5.out⟩
        · have s1 : ((⟨(x :: tl).toArray⟩ : ByteArray) == ⟨#[]⟩) = false := by rfl
          have s2 : ((⟨(x :: tl).toArray⟩ : ByteArray) != ⟨#[]⟩) = true := by simp [bne, s1]
          go_wp2_with fail
          refine HRR.out.mono ?_
          rintro e w5 ⟨rfl, hb5⟩
          have HB5 := Lib.hid (below_trans HX.out.2 hb5 HX.out.2.size)
          clear hb5
          go_wp2_with fail
          go_ret2
          exact ⟨none, 0, by rw [HF.out]; rfl, by rw [HF.out]; exact rowsIn_nil _, HB5.out⟩
        · rw [hg] at HRR
          go_wp2_with fail
          refine HRR.out.mono ?_
          rintro e w5 ⟨rfl, hb5⟩
          have HB5 := Lib.hid (below_trans HX.out.2 hb5 HX.out.2.size)
          clear hb5
          go_wp2_with fail
          go_ret2
          exact ⟨none, 0, by rw [HF.out]; rfl, by rw [HF.out]; exact rowsIn_nil _, HB5.out⟩
      · have HF := Lib.hid (show takeT l = (acc, 0) from by rw [HT2.out, if_neg hbad])
        have hways : o1 = false ∧ t = [] ∧ goodB acc = true := by
          refine ⟨by cases o1; rfl; exact absurd (.inl rfl) hbad, Classical.byContradiction fun h => hbad (.inr (.inl h)), ?_⟩
          cases h : goodB acc
          · exact absurd (.inr (.inr h)) hbad
          · rfl
        obtain ⟨rfl, rfl, hg⟩ := hways
        clear hbad
        rw [hg] at HRR
        go_wp2_with fail
        refine HRR.out.mono ?_
        rintro e w5 ⟨rfl, hb5⟩
        have HB5 := Lib.hid (And.intro (HGB.out.below hb5) (below_trans HX.out.2 hb5 HX.out.2.size))
        clear hb5
        go_wp2_with fail
        go_ret2
        exact ⟨A5, c5, by rw [HF.out]; rfl, by rw [HF.out]; exact HB5.out.1, HB5.out.2⟩
end Go.Proofs.Ythnajmfbomedlaa

