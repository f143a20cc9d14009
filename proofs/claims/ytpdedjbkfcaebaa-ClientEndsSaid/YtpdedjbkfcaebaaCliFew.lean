/- copyholdref11.Small, copyholdref18.Few: are calls few, has a client few jobs? Old memory is as it was. -/
import Derived.Test.YtpdedjbkfcaebaaCliSame
set_option linter.unusedVariables false
set_option linter.unusedSimpArgs false
namespace Go.Proofs.Ytpdedjbkfcaebaa
open Go.RowKit Copyhold
def csum (l : List Cal) : Nat := (l.map fun c => c.name.length + c.name2.length + c.text.length).sum
theorem csum_take (l : List Cal) (k : Nat) (h : k < l.length) : csum (l.take (k + 1)) = csum (l.take k) + l[k].name.length + l[k].name2.length + l[k].text.length := by
  unfold csum
  rw [List.take_succ_eq_append_getElem h, List.map_append, List.sum_append]
  simp only [List.map_cons, List.map_nil, List.sum_cons, List.sum_nil]
  omega
theorem csum_le (l : List Cal) (k : Nat) : csum (l.take k) ≤ csum l := by
  have h : csum l = csum (l.take k) + csum (l.drop k) := by
    unfold csum
    rw [← List.sum_append, ← List.map_append, List.take_append_drop]
  omega
def smallB (l : List Cal) : Bool := decide (l.length + csum l ≤ 2000 ∧ l.length ≤ 30)
set_option maxRecDepth 100000 in
set_option maxHeartbeats 4000000 in
theorem ref11_Small (l : List Cal) (v : Value) (w : World) (hl : CalsIn w v l) (hn : l.length ≤ 8796093022207) :
    Calls Try.prog 42 #[v] w fun e w' => e = .returned (.bool (smallB l)) ∧ Below w.heap.size w w' := by
  obtain ⟨A, c, rfl⟩ := SlOf.shape hl
  have HL := Lib.hid hl
  clear hl
  go_enter Try.func42, Try.ntmps42
  go_wp2_with fail
  go_loopw [3, 4] (fun so si wr => ∃ k n : Nat, si = .int .i64 k ∧ so = .int .i64 n ∧ n = l.length + csum (l.take k) ∧ k ≤ l.length ∧ n ≤ 500000000000000 ∧ Below w.heap.size w wr) (fun _ si _ => l.length - (intOf si).toNat)
  case atStart => exact ⟨0, l.length, rfl, rfl, by simp [csum], Nat.zero_le _, by omega, Below.refl _ _⟩
  case round =>
    obtain ⟨k, n, rfl, rfl, hnn, hk, hn5, hb⟩ := hrel
    have HN := Lib.hid hnn
    clear hnn
    by_cases hlt : k < l.length
    · by_cases h2 : n ≤ 2000
      · obtain ⟨b, off, rfl, hbk, hc, _, o5, o6, o7⟩ := (HL.out.below hb).at k hlt
        have k5 : wr.cell? ⟨b, off + k * 8 + 5, none⟩ = some (.string ⟨l[k].name.toArray⟩) := hc 5 _ rfl
        have k6 : wr.cell? ⟨b, off + k * 8 + 6, none⟩ = some (.string ⟨l[k].name2.toArray⟩) := hc 6 _ rfl
        have k7 : wr.cell? ⟨b, off + k * 8 + 7, none⟩ = some (.string ⟨l[k].text.toArray⟩) := hc 7 _ rfl
        have HS := Lib.hid (csum_take l k hlt)
        have hki : (k : Int) < (l.length : Int) := by omega
        have hk0 : (0 : Int) ≤ (k : Int) := by omega
        have hni : (n : Int) ≤ 2000 := by omega
        generalize l[k] = x at *
        obtain ⟨x0, x1, x2, x3, x4, x5, x6, x7⟩ := x
        simp only at k5 k6 k7 HS o5 o6 o7
        clear hc
        go_wp2_with fail
        go_quiet (fail)
        go_wp2_with fail
        go_roundw
        case rel => exact ⟨k + 1, n + x5.length + x6.length + x7.length, by go_num, by go_num, by rw [HS.out, HN.out]; omega, by omega, by omega, below_dn hb _⟩
        case measure => simp [intOf]; omega
      · have HF := Lib.hid (show smallB l = false from decide_eq_false (fun h => h2 (by have := csum_le l k; have := HN.out; omega)))
        have hki : (k : Int) < (l.length : Int) := by omega
        have hni : ¬ ((n : Int) ≤ 2000) := by omega
        go_wp2_with fail
        go_ret
        exact ⟨by rw [HF.out]; rfl, hb⟩
    · obtain rfl : k = l.length := by omega
      have hni : ¬ ((l.length : Int) < (l.length : Int)) := by omega
      have hnt : n = l.length + csum l := by rw [HN.out, List.take_length]
      by_cases h2 : n ≤ 2000
      · by_cases h3 : l.length ≤ 30
        · have HF := Lib.hid (show smallB l = true from decide_eq_true ⟨by omega, h3⟩)
          have hn1 : (n : Int) ≤ 2000 := by omega
          have hn2 : (l.length : Int) ≤ 30 := by omega
          clear hnt
          go_wp2_with fail
          go_ret
          exact ⟨by rw [HF.out]; rfl, hb⟩
        · have HF := Lib.hid (show smallB l = false from decide_eq_false (fun h => h3 h.2))
          have hn1 : (n : Int) ≤ 2000 := by omega
          have hn2 : ¬ ((l.length : Int) ≤ 30) := by omega
          clear hnt
          go_wp2_with fail
          go_ret
          exact ⟨by rw [HF.out]; rfl, hb⟩
      · have HF := Lib.hid (show smallB l = false from decide_eq_false (fun h => h2 (by omega)))
        have hn1 : ¬ ((n : Int) ≤ 2000) := by omega
        clear hnt
        go_wp2_with fail
        go_ret
        exact ⟨by rw [HF.out]; rfl, hb⟩
def fewB (c : Cli) : Bool := decide (c.jobs.length ≤ 20 ∧ c.told.length ≤ 30 ∧ c.now.length ≤ 40 ∧ (∀ j ∈ c.jobs, smallB j = true) ∧ ∀ d ∈ c.told, d.l.length ≤ 40)
set_option maxRecDepth 100000 in
set_option maxHeartbeats 4000000 in
theorem ref18_Few (x : Cli) (v : Value) (w : World) (hx : CliV w v x) :
    Calls Try.prog 20 #[v] w fun e w' => e = .returned (.bool (fewB x)) ∧ Below w.heap.size w w' := by
  obtain ⟨jv, tv, nv, rfl, hx⟩ := hx
  obtain ⟨XJ, Xj, XT, Xt, XN, Xn, rfl, rfl, rfl⟩ := hx.shape
  obtain ⟨W0, hW⟩ : ∃ W, W = w.alloc (.cells (cliC x (.slice XJ x.jobs.length Xj) (.slice XT x.told.length Xt) (.slice XN x.now.length Xn)) 26) := ⟨_, rfl⟩
  have hb : Below w.heap.size w W0 := by rw [hW]; exact (Below.refl _ _).alloc (Nat.le_refl _) _
  have px3 : W0.cell? ⟨w.heap.size, 3, none⟩ = some (.slice XJ x.jobs.length Xj) := by rw [hW, cell_new]; rfl
  have px7 : W0.cell? ⟨w.heap.size, 7, none⟩ = some (.slice XT x.told.length Xt) := by rw [hW, cell_new]; rfl
  have px8 : W0.cell? ⟨w.heap.size, 8, none⟩ = some (.slice XN x.now.length Xn) := by rw [hW, cell_new]; rfl
  have HX := Lib.hid (hx.below hb)
  have HW := Lib.hid hW
  have HB := Lib.hid hb
  have ojx := hx.ok.2.1
  have otx := hx.ok.2.2.1
  have onx := hx.ok.2.2.2
  clear hx hb hW
  unfold cliC at HW ⊢
  by_cases g0 : x.jobs.length ≤ 20
  · by_cases g1 : x.told.length ≤ 30
    · by_cases g2 : x.now.length ≤ 40
      · have HG := Lib.hid (And.intro g0 (And.intro g1 g2))
        go_enter Try.func20, Try.ntmps20
        go_wp2_with fail
        rw [← HW.out]
        go_loopw [3] (fun si wr => ∃ k : Nat, si = .int .i64 k ∧ k ≤ x.jobs.length ∧ (∀ j ∈ x.jobs.take k, smallB j = true) ∧ Below W0.heap.size W0 wr) (fun si _ => x.jobs.length - (intOf si).toNat)
        case atStart => exact ⟨0, rfl, Nat.zero_le _, by simp, Below.refl _ _⟩
        case round =>
          obtain ⟨k, rfl, hk, hp, hb⟩ := hrel
          have c1 := cell_keep hb px3
          have HP := Lib.hid (And.intro hp hb)
          have hbs := hb.size
          clear hp hb
          by_cases hlt : k < x.jobs.length
          · obtain ⟨b1, o1, A1, c1', rfl, hb1, k0, hs1, ok1⟩ := (HX.out.jobs.below HP.out.2).at k hlt
            have hmem : x.jobs[k] ∈ x.jobs := List.getElem_mem hlt
            have HST := Lib.hid (fun h : smallB x.jobs[k] = true => show ∀ j ∈ x.jobs.take (k + 1), smallB j = true from by
              rw [List.take_succ_eq_append_getElem hlt]
              intro j hj
              rcases List.mem_append.1 hj with h1 | h1
              · exact HP.out.1 j h1
              · rw [List.mem_singleton.1 h1]; exact h)
            have HNO := Lib.hid (fun h : ¬ smallB x.jobs[k] = true => show fewB x = false from decide_eq_false (fun hh => h (hh.2.2.2.1 _ hmem)))
            generalize x.jobs[k] = u at *
            go_wp2_with fail
            refine (ref11_Small u _ _ hs1 ok1).mono ?_
            rintro e w1 ⟨rfl, hb1⟩
            have HB4 := Lib.hid (below_trans HP.out.2 hb1 hbs)
            clear hb1 hs1
            cases hsu : smallB u
            · have HF := Lib.hid (HNO.out (by rw [hsu]; decide))
              clear hsu HST HNO
              go_wp2_with fail
              go_ret
              exact ⟨by rw [HF.out]; rfl, below_trans HB.out HB4.out HB.out.size⟩
            · have HN := Lib.hid (HST.out hsu)
              clear hsu HST HNO
              go_wp2_with fail
              go_roundw
              case rel => exact ⟨k + 1, by go_num, by omega, HN.out, HB4.out⟩
              case measure => simp [intOf]; omega
          · have HJ := Lib.hid (show ∀ j ∈ x.jobs, smallB j = true from by have := HP.out.1; rwa [List.take_of_length_le (by omega)] at this)
            have c2 := cell_keep HP.out.2 px7
            clear px3 px7 px8
            generalize wr = W2 at *
            go_wp2_with fail
            go_loopw [5] (fun si wr => ∃ k : Nat, si = .int .i64 k ∧ k ≤ x.told.length ∧ (∀ j ∈ x.told.take k, j.l.length ≤ 40) ∧ wr = W2) (fun si _ => x.told.length - (intOf si).toNat)
            case atStart => exact ⟨0, rfl, Nat.zero_le _, by simp, rfl⟩
            case round =>
              obtain ⟨k2, rfl, hk2, hp2, rfl⟩ := hrel
              by_cases hlt2 : k2 < x.told.length
              · obtain ⟨b2, o2, A2, c2', rfl, hb2, m0, m1, m2, m3, hs2, ok2, _, _⟩ := (HX.out.told.below HP.out.2).at k2 hlt2
                have hmem : x.told[k2] ∈ x.told := List.getElem_mem hlt2
                have HST := Lib.hid (fun h : x.told[k2].l.length ≤ 40 => show ∀ j ∈ x.told.take (k2 + 1), j.l.length ≤ 40 from by
                  rw [List.take_succ_eq_append_getElem hlt2]
                  intro j hj
                  rcases List.mem_append.1 hj with h1 | h1
                  · exact hp2 j h1
                  · rw [List.mem_singleton.1 h1]; exact h)
                have HNO := Lib.hid (fun h : ¬ x.told[k2].l.length ≤ 40 => show fewB x = false from decide_eq_false (fun hh => h (hh.2.2.2.2 _ hmem)))
                have hk0 : (0 : Int) ≤ (k2 : Int) := by omega
                generalize x.told[k2] = u at *
                obtain ⟨us, uy, ue, ul⟩ := u
                simp only at m0 m1 m2 m3 hs2 ok2 HST HNO
                clear hp2
                by_cases h40 : ul.length ≤ 40
                · have HN := Lib.hid (HST.out h40)
                  have hq : ¬ ((40 : Int) < (ul.length : Int)) := by omega
                  clear HST HNO hs2
                  go_wp2_with fail
                  go_roundw
                  case rel => exact ⟨k2 + 1, by go_num, by omega, HN.out, by first | rfl | trivial⟩
                  case measure => simp [intOf]; omega
                · have HF := Lib.hid (HNO.out h40)
                  have hq : ((40 : Int) < (ul.length : Int)) := by omega
                  clear HST HNO hs2
                  go_wp2_with fail
                  go_ret
                  exact ⟨by rw [HF.out]; rfl, below_trans HB.out HP.out.2 HB.out.size⟩
              · have HF := Lib.hid (show fewB x = true from decide_eq_true ⟨HG.out.1, HG.out.2.1, HG.out.2.2, HJ.out, by rwa [List.take_of_length_le (by omega)] at hp2⟩)
                clear hp2
                go_wp2_with fail
                go_ret
                exact ⟨by rw [HF.out]; rfl, below_trans HB.out HP.out.2 HB.out.size⟩
      · have HF := Lib.hid (show fewB x = false from decide_eq_false (fun h => g2 h.2.2.1))
        have q2 : (40 : Int) < (x.now.length : Int) := by omega
        go_enter Try.func20, Try.ntmps20
        go_wp2_with fail
        rw [← HW.out]
        go_ret
        exact ⟨by rw [HF.out]; rfl, HB.out⟩
    · have HF := Lib.hid (show fewB x = false from decide_eq_false (fun h => g1 h.2.1))
      have q2 : (30 : Int) < (x.told.length : Int) := by omega
      go_enter Try.func20, Try.ntmps20
      go_wp2_with fail
      rw [← HW.out]
      go_ret
      exact ⟨by rw [HF.out]; rfl, HB.out⟩
  · have HF := Lib.hid (show fewB x = false from decide_eq_false (fun h => g0 h.1))
    have q2 : (20 : Int) < (x.jobs.length : Int) := by omega
    go_enter Try.func20, Try.ntmps20
    go_wp2_with fail
    rw [← HW.out]
    go_ret
    exact ⟨by rw [HF.out]; rfl, HB.out⟩
end Go.Proofs.Ytpdedjbkfcaebaa
