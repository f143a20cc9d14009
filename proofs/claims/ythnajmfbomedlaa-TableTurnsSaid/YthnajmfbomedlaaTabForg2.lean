/- copyholdref14.Forget as one. -/
import Derived.Test.YthnajmfbomedlaaTabForg
import Derived.Test.YthnajmfbomedlaaTabRight
set_option linter.unusedVariables false
set_option linter.unusedSimpArgs false
namespace Go.Proofs.Ythnajmfbomedlaa
open Go.RowKit Copyhold

theorem row_eta (r : TRow) (n ep : Int) (hc : r.client = n) (he : r.epoch = ep) : r = ⟨n, ep, r.done, r.l⟩ := by subst hc he; rfl

set_option maxRecDepth 100000 in
set_option maxHeartbeats 4000000 in
theorem ref14_Forget (rs : List TRow) (v : Value) (n ep dn : Int) (w : World) (hr : RowsIn w v rs) (hg : Good rs) (n1 : -9223372036854775808 ≤ n) (n2 : n ≤ 9223372036854775807)
    (e1 : -9223372036854775808 ≤ ep) (e2 : ep ≤ 9223372036854775807) (s1 : -9223372036854775808 ≤ dn) (s2 : dn ≤ 9223372036854775807) :
    Calls Try.prog 19 #[v, .int .i64 n, .int .i64 ep, .int .i64 dn] w (ForRet w (forgetF rs n ep dn)) := by
  obtain ⟨A, c, rfl⟩ := SlOf.shape hr
  obtain ⟨hn, hl⟩ := good_bounds hg
  rw [← forgetR_eq hg]
  by_cases hz : whyF rs n ep dn = 0
  · obtain ⟨r, hra, hre, _⟩ := whyF_zero hz
    rcases placeR_ways rs n with ⟨hp, hra2⟩ | ⟨k, hk, hp, hra2⟩
    · rw [hra] at hra2; cases hra2
    obtain rfl : r = rs[k] := by rw [hra] at hra2; injection hra2
    have hc := (rowAt_client hra).1
    have hF : forgetR rs n ep dn = (putR rs (cutD dn rs[k]), 0) := by unfold forgetR; rw [if_neg (by simpa using hz), hra]
    have hcut : cutD dn rs[k] = ⟨n, ep, max rs[k].done dn, above rs[k].l (max rs[k].done dn)⟩ := by unfold cutD; rw [hc, hre]
    rw [hF, hcut]
    exact ref14_Forget_some rs A c n ep dn _ w hr hn hg.2.1 n1 n2 e1 e2 s1 s2 hz k hk hp rs[k].done rs[k].l (row_eta _ n ep hc hre) (hl _ (List.getElem_mem hk)) rfl
  · have hF : forgetR rs n ep dn = (rs, whyF rs n ep dn) := by unfold forgetR; rw [if_pos hz]
    rw [hF]
    have HWY := Lib.hid (ref14_why rs _ n ep dn w hr hn n1 n2 e1 e2 s1 s2)
    have HR := Lib.hid hr
    obtain ⟨b1, b2⟩ := whyF_bd rs n ep dn
    clear hF hr hg hn hl
    generalize whyF rs n ep dn = e0 at *
    have hz2 : (e0 == 0) = false := by simpa using hz
    go_enter Try.func19, Try.ntmps19
    go_wp2_with fail
    refine HWY.out.mono ?_
    rintro e w1 ⟨rfl, rfl⟩
    go_wp2_with fail
    refine bodyPost_ret (v := .tuple #[.slice A rs.length c, .int .i64 e0]) (by simp [results, Try.results19, go_sem]) rfl ⟨A, c, rfl, HR.out, Below.refl _ _⟩
end Go.Proofs.Ythnajmfbomedlaa
