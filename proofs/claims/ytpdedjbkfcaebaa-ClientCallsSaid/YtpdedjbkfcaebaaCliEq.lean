/- slices.Equal of texts, ops.Same, copyholdref11.Same: are two rows of texts, two replies the same? Old memory is as it was. -/
import Derived.Test.YtpdedjbkfcaebaaCliP
import Derived.Test.YtpdedjbkfcaebaaTaking
set_option linter.unusedVariables false
set_option linter.unusedSimpArgs false
namespace Go.Proofs.Ytpdedjbkfcaebaa
open Go.RowKit Copyhold
set_option maxRecDepth 100000 in
set_option maxHeartbeats 4000000 in
theorem ref11_Same (x y : Rep) (A B : Option Addr) (c d : Nat) (w : World) (hx : Row w (.slice A x.ns.length c) (x.ns.map strV)) (hy : Row w (.slice B y.ns.length d) (y.ns.map strV)) (lx : x.ns.length ≤ 8796093022208) (ly : y.ns.length ≤ 8796093022208) :
    Calls Try.prog 27 #[.agg (repC x (.slice A x.ns.length c)).toArray, .agg (repC y (.slice B y.ns.length d)).toArray] w fun e w' => e = .returned (.bool (decide (x = y))) ∧ Below w.heap.size w w' := by
  obtain ⟨xe, xa, xb, xn, xt, xns⟩ := x
  obtain ⟨ye, ya, yb, yn, yt, yns⟩ := y
  simp only at hx hy lx ly ⊢
  obtain ⟨W, hW⟩ : ∃ W, W = (w.alloc (.cells #[.int .i64 xe, .int .i64 xa, .int .i64 xb, .int .i64 xn, .string ⟨xt.toArray⟩, .slice A xns.length c] 30)).alloc (.cells #[.int .i64 ye, .int .i64 ya, .int .i64 yb, .int .i64 yn, .string ⟨yt.toArray⟩, .slice B yns.length d] 30) := ⟨_, rfl⟩
  have hb : Below w.heap.size w W := by rw [hW]; exact ((Below.refl _ _).alloc (Nat.le_refl _) _).alloc (by simp) _
  have HC := Lib.hid (ref_Strings _ _ xns yns W (hx.below hb) (hy.below hb) lx ly)
  have HW := Lib.hid hW
  have HB := Lib.hid hb
  clear hx hy hb hW
  unfold repC txV
  have HX0 : Hid (∀ j v, (#[.int .i64 xe, .int .i64 xa, .int .i64 xb, .int .i64 xn, .string ⟨xt.toArray⟩, .slice A xns.length c])[j]? = some v → W.cell? ⟨w.heap.size, j, none⟩ = some v) := Lib.hid (fun j v h => by
    rw [HW.out]
    exact cell_alloc _ (by rw [cell_new]; exact h))
  have HY0 : Hid (∀ j v, (#[.int .i64 ye, .int .i64 ya, .int .i64 yb, .int .i64 yn, .string ⟨yt.toArray⟩, .slice B yns.length d])[j]? = some v → W.cell? ⟨w.heap.size + 1, j, none⟩ = some v) := Lib.hid (fun j v h => by
    rw [HW.out]
    have := cell_new (w.alloc (.cells #[.int .i64 xe, .int .i64 xa, .int .i64 xb, .int .i64 xn, .string ⟨xt.toArray⟩, .slice A xns.length c] 30)) #[.int .i64 ye, .int .i64 ya, .int .i64 yb, .int .i64 yn, .string ⟨yt.toArray⟩, .slice B yns.length d] 30 j
    rw [show (w.alloc (.cells #[.int .i64 xe, .int .i64 xa, .int .i64 xb, .int .i64 xn, .string ⟨xt.toArray⟩, .slice A xns.length c] 30)).heap.size = w.heap.size + 1 from by simp] at this
    rw [this]; exact h)
  by_cases gs : xns = yns
  · have HS := Lib.hid (show sameTexts xns yns = true from by simp [sameTexts, gs])
    by_cases g0 : xe = ye
    · have q0 : (xe == ye) = true := by simpa using g0
      by_cases g1 : xa = ya
      · have q1 : (xa == ya) = true := by simpa using g1
        by_cases g2 : xb = yb
        · have q2 : (xb == yb) = true := by simpa using g2
          by_cases g3 : xn = yn
          · have q3 : (xn == yn) = true := by simpa using g3
            by_cases g4 : xt = yt
            · have q4 : (xt == yt) = true := by simpa using g4
              have HF := Lib.hid (show decide ((⟨xe, xa, xb, xn, xt, xns⟩ : Rep) = ⟨ye, ya, yb, yn, yt, yns⟩) = true from by simp [gs, g0, g1, g2, g3, g4])
              clear gs g0 g1 g2 g3 g4
              go_enter Try.func27, Try.ntmps27
              go_wp2_with fail
              rw [← HW.out]
              refine HC.out.mono ?_
              rintro e w2 ⟨rfl, hb2⟩
              rw [HS.out]
              have b1 := fun j v h => cell_keep hb2 (HX0.out j v h)
              have b2 := fun j v h => cell_keep hb2 (HY0.out j v h)
              have p0 := b1 0 _ rfl
              have r0 := b2 0 _ rfl
              have p1 := b1 1 _ rfl
              have r1 := b2 1 _ rfl
              have p2 := b1 2 _ rfl
              have r2 := b2 2 _ rfl
              have p3 := b1 3 _ rfl
              have r3 := b2 3 _ rfl
              have p4 := b1 4 _ rfl
              have r4 := b2 4 _ rfl
              have HB2 := Lib.hid (below_trans HB.out hb2 HB.out.size)
              clear hb2 b1 b2
              go_wp2_with fail
              go_ret
              exact ⟨by rw [HF.out]; rfl, HB2.out⟩
            · have q4 : (xt == yt) = false := by simpa using g4
              have HF := Lib.hid (show decide ((⟨xe, xa, xb, xn, xt, xns⟩ : Rep) = ⟨ye, ya, yb, yn, yt, yns⟩) = false from by simp [g0, g1, g2, g3, g4])
              clear gs g0 g1 g2 g3 g4
              go_enter Try.func27, Try.ntmps27
              go_wp2_with fail
              rw [← HW.out]
              refine HC.out.mono ?_
              rintro e w2 ⟨rfl, hb2⟩
              rw [HS.out]
              have b1 := fun j v h => cell_keep hb2 (HX0.out j v h)
              have b2 := fun j v h => cell_keep hb2 (HY0.out j v h)
              have p0 := b1 0 _ rfl
              have r0 := b2 0 _ rfl
              have p1 := b1 1 _ rfl
              have r1 := b2 1 _ rfl
              have p2 := b1 2 _ rfl
              have r2 := b2 2 _ rfl
              have p3 := b1 3 _ rfl
              have r3 := b2 3 _ rfl
              have p4 := b1 4 _ rfl
              have r4 := b2 4 _ rfl
              have HB2 := Lib.hid (below_trans HB.out hb2 HB.out.size)
              clear hb2 b1 b2
              go_wp2_with fail
              go_ret
              exact ⟨by rw [HF.out]; rfl, HB2.out⟩
          · have q3 : (xn == yn) = false := by simpa using g3
            have HF := Lib.hid (show decide ((⟨xe, xa, xb, xn, xt, xns⟩ : Rep) = ⟨ye, ya, yb, yn, yt, yns⟩) = false from by simp [g0, g1, g2, g3])
            clear gs g0 g1 g2 g3
            go_enter Try.func27, Try.ntmps27
            go_wp2_with fail
            rw [← HW.out]
            refine HC.out.mono ?_
            rintro e w2 ⟨rfl, hb2⟩
            rw [HS.out]
            have b1 := fun j v h => cell_keep hb2 (HX0.out j v h)
            have b2 := fun j v h => cell_keep hb2 (HY0.out j v h)
            have p0 := b1 0 _ rfl
            have r0 := b2 0 _ rfl
            have p1 := b1 1 _ rfl
            have r1 := b2 1 _ rfl
            have p2 := b1 2 _ rfl
            have r2 := b2 2 _ rfl
            have p3 := b1 3 _ rfl
            have r3 := b2 3 _ rfl
            have p4 := b1 4 _ rfl
            have r4 := b2 4 _ rfl
            have HB2 := Lib.hid (below_trans HB.out hb2 HB.out.size)
            clear hb2 b1 b2
            go_wp2_with fail
            go_ret
            exact ⟨by rw [HF.out]; rfl, HB2.out⟩
        · have q2 : (xb == yb) = false := by simpa using g2
          have HF := Lib.hid (show decide ((⟨xe, xa, xb, xn, xt, xns⟩ : Rep) = ⟨ye, ya, yb, yn, yt, yns⟩) = false from by simp [g0, g1, g2])
          clear gs g0 g1 g2
          go_enter Try.func27, Try.ntmps27
          go_wp2_with fail
          rw [← HW.out]
          refine HC.out.mono ?_
          rintro e w2 ⟨rfl, hb2⟩
          rw [HS.out]
          have b1 := fun j v h => cell_keep hb2 (HX0.out j v h)
          have b2 := fun j v h => cell_keep hb2 (HY0.out j v h)
          have p0 := b1 0 _ rfl
          have r0 := b2 0 _ rfl
          have p1 := b1 1 _ rfl
          have r1 := b2 1 _ rfl
          have p2 := b1 2 _ rfl
          have r2 := b2 2 _ rfl
          have p3 := b1 3 _ rfl
          have r3 := b2 3 _ rfl
          have p4 := b1 4 _ rfl
          have r4 := b2 4 _ rfl
          have HB2 := Lib.hid (below_trans HB.out hb2 HB.out.size)
          clear hb2 b1 b2
          go_wp2_with fail
          go_ret
          exact ⟨by rw [HF.out]; rfl, HB2.out⟩
      · have q1 : (xa == ya) = false := by simpa using g1
        have HF := Lib.hid (show decide ((⟨xe, xa, xb, xn, xt, xns⟩ : Rep) = ⟨ye, ya, yb, yn, yt, yns⟩) = false from by simp [g0, g1])
        clear gs g0 g1
        go_enter Try.func27, Try.ntmps27
        go_wp2_with fail
        rw [← HW.out]
        refine HC.out.mono ?_
        rintro e w2 ⟨rfl, hb2⟩
        rw [HS.out]
        have b1 := fun j v h => cell_keep hb2 (HX0.out j v h)
        have b2 := fun j v h => cell_keep hb2 (HY0.out j v h)
        have p0 := b1 0 _ rfl
        have r0 := b2 0 _ rfl
        have p1 := b1 1 _ rfl
        have r1 := b2 1 _ rfl
        have p2 := b1 2 _ rfl
        have r2 := b2 2 _ rfl
        have p3 := b1 3 _ rfl
        have r3 := b2 3 _ rfl
        have p4 := b1 4 _ rfl
        have r4 := b2 4 _ rfl
        have HB2 := Lib.hid (below_trans HB.out hb2 HB.out.size)
        clear hb2 b1 b2
        go_wp2_with fail
        go_ret
        exact ⟨by rw [HF.out]; rfl, HB2.out⟩
    · have q0 : (xe == ye) = false := by simpa using g0
      have HF := Lib.hid (show decide ((⟨xe, xa, xb, xn, xt, xns⟩ : Rep) = ⟨ye, ya, yb, yn, yt, yns⟩) = false from by simp [g0])
      clear gs g0
      go_enter Try.func27, Try.ntmps27
      go_wp2_with fail
      rw [← HW.out]
      refine HC.out.mono ?_
      rintro e w2 ⟨rfl, hb2⟩
      rw [HS.out]
      have b1 := fun j v h => cell_keep hb2 (HX0.out j v h)
      have b2 := fun j v h => cell_keep hb2 (HY0.out j v h)
      have p0 := b1 0 _ rfl
      have r0 := b2 0 _ rfl
      have p1 := b1 1 _ rfl
      have r1 := b2 1 _ rfl
      have p2 := b1 2 _ rfl
      have r2 := b2 2 _ rfl
      have p3 := b1 3 _ rfl
      have r3 := b2 3 _ rfl
      have p4 := b1 4 _ rfl
      have r4 := b2 4 _ rfl
      have HB2 := Lib.hid (below_trans HB.out hb2 HB.out.size)
      clear hb2 b1 b2
      go_wp2_with fail
      go_ret
      exact ⟨by rw [HF.out]; rfl, HB2.out⟩
  · have HS := Lib.hid (show sameTexts xns yns = false from by simp [sameTexts, gs])
    have HF := Lib.hid (show decide ((⟨xe, xa, xb, xn, xt, xns⟩ : Rep) = ⟨ye, ya, yb, yn, yt, yns⟩) = false from by simp [gs])
    clear gs
    go_enter Try.func27, Try.ntmps27
    go_wp2_with fail
    rw [← HW.out]
    refine HC.out.mono ?_
    rintro e w2 ⟨rfl, hb2⟩
    rw [HS.out]
    have b1 := fun j v h => cell_keep hb2 (HX0.out j v h)
    have b2 := fun j v h => cell_keep hb2 (HY0.out j v h)
    have p0 := b1 0 _ rfl
    have r0 := b2 0 _ rfl
    have p1 := b1 1 _ rfl
    have r1 := b2 1 _ rfl
    have p2 := b1 2 _ rfl
    have r2 := b2 2 _ rfl
    have p3 := b1 3 _ rfl
    have r3 := b2 3 _ rfl
    have p4 := b1 4 _ rfl
    have r4 := b2 4 _ rfl
    have HB2 := Lib.hid (below_trans HB.out hb2 HB.out.size)
    clear hb2 b1 b2
    go_wp2_with fail
    go_ret
    exact ⟨by rw [HF.out]; rfl, HB2.out⟩
end Go.Proofs.Ytpdedjbkfcaebaa
