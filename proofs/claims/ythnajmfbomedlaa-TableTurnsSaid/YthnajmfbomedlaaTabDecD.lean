/- copyholdref14.Decide as one. -/
import Derived.Test.YthnajmfbomedlaaTabDecA
import Derived.Test.YthnajmfbomedlaaTabDecB
import Derived.Test.YthnajmfbomedlaaTabDecC
set_option linter.unusedVariables false
set_option linter.unusedSimpArgs false
namespace Go.Proofs.Ythnajmfbomedlaa
open Go.RowKit Copyhold

set_option maxRecDepth 100000 in
set_option maxHeartbeats 8000000 in
theorem ref14_Decide_fullNone (rs : List TRow) (A : Option Addr) (c : Nat) (n ep sq : Int) (yes : Bool) (w : World) (hr : RowsIn w (.slice A rs.length c) rs) (hn : rs.length ≤ 100000) (n1 : -9223372036854775808 ≤ n) (n2 : n ≤ 9223372036854775807)
    (e1 : -9223372036854775808 ≤ ep) (e2 : ep ≤ 9223372036854775807) (s1 : -9223372036854775808 ≤ sq) (s2 : sq ≤ 9223372036854775807) (ha : askR rs n ep sq = (false, 6)) (hp : placeR rs n = -1) (hx0 : 64 ≤ rs.length) :
    Calls Try.prog 17 #[.slice A rs.length c, .int .i64 n, .int .i64 ep, .int .i64 sq, .bool yes] w (DecRet w (rs, false, 12)) := by
  have HASK := Lib.hid (ref14_Ask rs _ n ep sq w hr hn n1 n2 e1 e2 s1 s2)
  rw [ha] at HASK
  simp only at HASK
  have HPL : Hid (∀ W : World, RowsIn W (.slice A rs.length c) rs → Calls Try.prog 30 #[.slice A rs.length c, .int .i64 n] W fun e w' => e = .returned (.int .i64 (-1)) ∧ w' = W) := Lib.hid fun W h => by
    have := ref14_place rs _ n W h hn n1 n2
    rw [hp] at this
    exact this
  have HR := Lib.hid hr
  clear hr ha hp
  go_enter Try.func17, Try.ntmps17
  go_wp2_with fail
  refine HASK.out.mono ?_
  rintro e w1 ⟨rfl, hb1⟩
  have HB0 := Lib.hid hb1
  have hr1 := HR.out.below hb1
  clear hb1
  go_wp2_with fail
  refine (HPL.out w1 hr1).mono ?_
  rintro e w2 ⟨rfl, rfl⟩
  have HR1 := Lib.hid hr1
  have hx : (64 : Int) ≤ (rs.length : Int) := by omega
  clear hr1
  go_wp2_with fail
  refine bodyPost_ret (v := .tuple #[.slice A rs.length c, .bool false, .int .i64 12]) (by simp [results, Try.results17, go_sem]) rfl ⟨A, c, rfl, ?_, ?_⟩
  · exact HR1.out.below ((Below.refl _ _).alloc (Nat.le_refl _) _)
  · exact HB0.out.alloc HB0.out.size _
set_option maxRecDepth 100000 in
set_option maxHeartbeats 8000000 in
theorem ref14_Decide_fullSame (rs : List TRow) (A : Option Addr) (c : Nat) (n ep sq : Int) (yes : Bool) (w : World) (hr : RowsIn w (.slice A rs.length c) rs) (hn : rs.length ≤ 100000) (n1 : -9223372036854775808 ≤ n) (n2 : n ≤ 9223372036854775807)
    (e1 : -9223372036854775808 ≤ ep) (e2 : ep ≤ 9223372036854775807) (s1 : -9223372036854775808 ≤ sq) (s2 : sq ≤ 9223372036854775807) (ha : askR rs n ep sq = (false, 6)) (k : Nat) (hk : k < rs.length) (hp : placeR rs n = k) (bd : Int) (bl : List (Int × Bool)) (hre : rs[k] = ⟨n, ep, bd, bl⟩) (hbl : 256 ≤ bl.length) :
    Calls Try.prog 17 #[.slice A rs.length c, .int .i64 n, .int .i64 ep, .int .i64 sq, .bool yes] w (DecRet w (rs, false, 12)) := by
  have HASK := Lib.hid (ref14_Ask rs _ n ep sq w hr hn n1 n2 e1 e2 s1 s2)
  rw [ha] at HASK
  simp only at HASK
  have HPL : Hid (∀ W : World, RowsIn W (.slice A rs.length c) rs → Calls Try.prog 30 #[.slice A rs.length c, .int .i64 n] W fun e w' => e = .returned (.int .i64 k) ∧ w' = W) := Lib.hid fun W h => by
    have := ref14_place rs _ n W h hn n1 n2
    rw [hp] at this
    exact this
  have HR := Lib.hid hr
  clear hr ha hp
  go_enter Try.func17, Try.ntmps17
  go_wp2_with fail
  refine HASK.out.mono ?_
  rintro e w1 ⟨rfl, hb1⟩
  have HB0 := Lib.hid hb1
  have hr1 := HR.out.below hb1
  clear hb1
  go_wp2_with fail
  refine (HPL.out w1 hr1).mono ?_
  rintro e w2 ⟨rfl, rfl⟩
  have HR1 := Lib.hid hr1
  obtain ⟨b, off, Ab, cb, rfl, hbk, k0, k1, k2, k3, hsl, hll, o1, o2, o3⟩ := hr1.at k hk
  rw [hre] at k0 k1 k2 k3 hsl hll o3
  simp only at k0 k1 k2 k3 hsl hll o3
  have hki : (k : Int) < (rs.length : Int) := by omega
  have hbi : (256 : Int) ≤ (bl.length : Int) := by omega
  clear o1 o2 o3 hre hsl hr1
  go_wp2_with fail
  refine bodyPost_ret (v := .tuple #[.slice (some ⟨b, off, none⟩) rs.length c, .bool false, .int .i64 12]) (by simp [results, Try.results17, go_sem]) rfl ⟨some ⟨b, off, none⟩, c, rfl, ?_, ?_⟩
  · exact HR1.out.below ((Below.refl _ _).alloc (Nat.le_refl _) _)
  · exact HB0.out.alloc HB0.out.size _
set_option maxRecDepth 100000 in
set_option maxHeartbeats 8000000 in
theorem ref14_Decide_was (rs : List TRow) (A : Option Addr) (c : Nat) (n ep sq : Int) (yes : Bool) (w : World) (hr : RowsIn w (.slice A rs.length c) rs) (hn : rs.length ≤ 100000) (n1 : -9223372036854775808 ≤ n) (n2 : n ≤ 9223372036854775807)
    (e1 : -9223372036854775808 ≤ ep) (e2 : ep ≤ 9223372036854775807) (s1 : -9223372036854775808 ≤ sq) (s2 : sq ≤ 9223372036854775807) (ha : (askR rs n ep sq).2 ≠ 6) (hb : 0 ≤ (askR rs n ep sq).2 ∧ (askR rs n ep sq).2 ≤ 18) :
    Calls Try.prog 17 #[.slice A rs.length c, .int .i64 n, .int .i64 ep, .int .i64 sq, .bool yes] w (DecRet w (rs, askR rs n ep sq)) := by
  have HASK := Lib.hid (ref14_Ask rs _ n ep sq w hr hn n1 n2 e1 e2 s1 s2)
  have HR := Lib.hid hr
  clear hr
  generalize askR rs n ep sq = p at *
  obtain ⟨y0, e0⟩ := p
  obtain ⟨b1, b2⟩ := hb
  simp only at HASK ha b1 b2
  have hne : (e0 == 6) = false := by simpa using ha
  go_enter Try.func17, Try.ntmps17
  go_wp2_with fail
  refine HASK.out.mono ?_
  rintro e w1 ⟨rfl, hb1⟩
  have HB0 := Lib.hid hb1
  clear hb1
  go_wp2_with fail
  refine bodyPost_ret (v := .tuple #[.slice A rs.length c, .bool y0, .int .i64 e0]) (by simp [results, Try.results17, go_sem]) rfl ⟨A, c, rfl, HR.out.below HB0.out, HB0.out⟩

theorem askR_bd (rs : List TRow) (n ep sq : Int) : 0 ≤ (askR rs n ep sq).2 ∧ (askR rs n ep sq).2 ≤ 18 := by
  have h := whyF_bd rs n ep sq
  unfold askR
  split
  · exact ⟨h.1, by have := h.2; simp only; omega⟩
  · split
    · simp
    · split
      · simp
      · split <;> simp
theorem ref14_Decide (rs : List TRow) (v : Value) (n ep sq : Int) (yes : Bool) (w : World) (hr : RowsIn w v rs) (hg : Good rs) (n1 : -9223372036854775808 ≤ n) (n2 : n ≤ 9223372036854775807)
    (e1 : -9223372036854775808 ≤ ep) (e2 : ep ≤ 9223372036854775807) (s1 : -9223372036854775808 ≤ sq) (s2 : sq ≤ 9223372036854775807) :
    Calls Try.prog 17 #[v, .int .i64 n, .int .i64 ep, .int .i64 sq, .bool yes] w (DecRet w (decideF rs n ep sq yes)) := by
  obtain ⟨A, c, rfl⟩ := SlOf.shape hr
  obtain ⟨hn, hl⟩ := good_bounds hg
  have hs := hg.2.1
  by_cases ha : (askF rs n ep sq).2 = 6
  · have hA : askR rs n ep sq = (false, 6) := by rw [askR_eq hg]; exact ask_none rs n ep sq ha
    have hfull := full_is rs n ep sq hg ha
    rcases placeR_ways rs n with ⟨hp, hra⟩ | ⟨k, hk, hp, hra⟩
    · have hb : baseR rs n ep = ⟨n, ep, 0, []⟩ := by unfold baseR; rw [hra]
      rw [hra, hb] at hfull
      by_cases hx : 64 ≤ rs.length
      · have hF : decideF rs n ep sq yes = (rs, false, 12) := by
          unfold decideF
          rw [if_neg (by rw [ha]; decide), if_pos (by rw [hfull]; simp [hx])]
        rw [hF]
        exact ref14_Decide_fullNone rs A c n ep sq yes w hr hn n1 n2 e1 e2 s1 s2 hA hp hx
      · have hF := decide_row rs n ep sq yes hg ha (by rw [hfull]; simp; omega)
        rw [hF]
        refine ref14_Decide_none rs A c n ep sq yes w hr hn hs n1 n2 e1 e2 s1 s2 hA hp (by omega) _ ?_
        rw [hb]
        rfl
    · have hc := (rowAt_client hra).1
      by_cases he : rs[k].epoch = ep
      · have hb : baseR rs n ep = rs[k] := by unfold baseR; rw [hra]; simp [he]
        rw [hra, hb] at hfull
        by_cases hx : 256 ≤ rs[k].l.length
        · have hF : decideF rs n ep sq yes = (rs, false, 12) := by
            unfold decideF
            rw [if_neg (by rw [ha]; decide), if_pos (by rw [hfull]; simp [hx])]
          rw [hF]
          exact ref14_Decide_fullSame rs A c n ep sq yes w hr hn n1 n2 e1 e2 s1 s2 hA k hk hp rs[k].done rs[k].l (row_eta _ n ep hc he) hx
        · have hF := decide_row rs n ep sq yes hg ha (by rw [hfull]; simp; omega)
          rw [hF]
          refine ref14_Decide_same rs A c n ep sq yes w hr hn hs n1 n2 e1 e2 s1 s2 hA k hk hp rs[k].done rs[k].l (row_eta _ n ep hc he) (by omega) _ ?_
          rw [hb]
          unfold putD
          rw [hc, he]
      · have hb : baseR rs n ep = ⟨n, ep, 0, []⟩ := by unfold baseR; rw [hra]; simp [he]
        rw [hra, hb] at hfull
        have hF := decide_row rs n ep sq yes hg ha (by rw [hfull]; simp)
        rw [hF]
        refine ref14_Decide_other rs A c n ep sq yes w hr hn hs n1 n2 e1 e2 s1 s2 hA k hk hp he _ ?_
        rw [hb]
        rfl
  · have hF : decideF rs n ep sq yes = (rs, askR rs n ep sq) := by
      unfold decideF
      rw [if_pos ha, askR_eq hg]
    rw [hF]
    exact ref14_Decide_was rs A c n ep sq yes w hr hn n1 n2 e1 e2 s1 s2 (by rw [askR_eq hg]; exact ha) (askR_bd rs n ep sq)
end Go.Proofs.Ythnajmfbomedlaa

