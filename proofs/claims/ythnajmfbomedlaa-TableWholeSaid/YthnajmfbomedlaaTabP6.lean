/- Layer 14's plain mathematics: what each law asks. No program. -/
import Derived.Test.YthnajmfbomedlaaTabP5
set_option linter.unusedVariables false
set_option linter.unusedSimpArgs false
namespace Go.Proofs.Ythnajmfbomedlaa
open Copyhold

theorem ask_zero {rs : List TRow} (h : Good rs) {n ep sq : Int} (ha : (askF rs n ep sq).2 = 0) : ¬ (n < 0 ∨ ep < 1 ∨ sq < 1) ∧ ∃ r, rowAt rs n = some r ∧ r.epoch = ep ∧ r.done < sq := by
  rw [h.ask] at ha
  by_cases hv : n < 0 ∨ ep < 1 ∨ sq < 1
  · rw [if_pos hv] at ha; exact absurd (show (1 : Int) = 0 from ha) (by decide)
  · rw [if_neg hv] at ha
    refine ⟨hv, ?_⟩
    cases hr : rowAt rs n with
    | none => rw [hr] at ha; exact absurd (show (6 : Int) = 0 from ha) (by decide)
    | some r =>
      rw [hr] at ha
      dsimp only at ha
      by_cases c1 : ep < r.epoch
      · rw [if_pos c1] at ha; exact absurd (show (17 : Int) = 0 from ha) (by decide)
      · rw [if_neg c1] at ha
        by_cases c2 : r.epoch < ep
        · rw [if_pos c2] at ha; exact absurd (show (6 : Int) = 0 from ha) (by decide)
        · rw [if_neg c2] at ha
          by_cases c3 : sq ≤ r.done
          · rw [if_pos c3] at ha; exact absurd (show (18 : Int) = 0 from ha) (by decide)
          · exact ⟨r, rfl, by omega, by omega⟩

theorem ask_bad {rs : List TRow} (h : Good rs) {n ep sq : Int} (ha : (askF rs n ep sq).2 ≠ 0) : (askF rs n ep sq).1 = false := by
  rw [h.ask] at ha ⊢
  by_cases hv : n < 0 ∨ ep < 1 ∨ sq < 1
  · rw [if_pos hv]
  · rw [if_neg hv] at ha ⊢
    cases hr : rowAt rs n with
    | none => rfl
    | some r =>
      rw [hr] at ha
      dsimp only at ha ⊢
      by_cases c1 : ep < r.epoch
      · rw [if_pos c1]
      · rw [if_neg c1] at ha ⊢
        by_cases c2 : r.epoch < ep
        · rw [if_pos c2]
        · rw [if_neg c2] at ha ⊢
          by_cases c3 : sq ≤ r.done
          · rw [if_pos c3]
          · rw [if_neg c3] at ha ⊢
            cases hq : decAt r.l sq with
            | none => rfl
            | some d => rw [hq] at ha; exact absurd rfl ha

theorem once_no (rs : List TRow) (n ep sq : Int) (y : Bool) (h : Good rs) (he : (decideF rs n ep sq y).2.2 ≠ 0) : (decideF rs n ep sq y).1 = rs ∧ (decideF rs n ep sq y).2.1 = false := by
  rcases decide_ways rs n ep sq y h with ⟨h1, h2⟩ | ⟨h1, h2⟩ | ⟨h1, h2, h3⟩
  · rw [h2] at he ⊢
    exact ⟨rfl, ask_bad h he⟩
  · rw [h2]; exact ⟨rfl, rfl⟩
  · rw [h2] at he; exact absurd rfl he

theorem once_yes (rs : List TRow) (n ep sq : Int) (y : Bool) (h : Good rs) (he : (decideF rs n ep sq y).2.2 = 0) :
    Good (decideF rs n ep sq y).1 ∧ askF (decideF rs n ep sq y).1 n ep sq = ((decideF rs n ep sq y).2.1, 0) := by
  rcases decide_ways rs n ep sq y h with ⟨h1, h2⟩ | ⟨h1, h2⟩ | ⟨h1, h2, h3⟩
  · rw [h2] at he ⊢
    exact ⟨h, Prod.ext rfl he⟩
  · rw [h2] at he; exact absurd (show (12 : Int) = 0 from he) (by decide)
  · rw [h2]
    obtain ⟨a1, a2, a3, a4, a5, a6⟩ := ask_six rs n ep sq h h1
    refine ⟨h3, ?_⟩
    show askF (putR rs (putD sq y (baseR rs n ep))) n ep sq = (y, 0)
    rw [ask_decided rs n ep sq y h h1 h3, if_neg (by omega), if_pos rfl, if_neg (by omega), if_neg (by omega), if_pos rfl]

theorem once_again (k : List TRow) (n ep sq : Int) (y was : Bool) (ha : askF k n ep sq = (was, 0)) : decideF k n ep sq y = (k, was, 0) := by
  unfold decideF
  rw [ha, if_pos (by intro x; exact absurd (show (0 : Int) = 6 from x) (by decide))]

theorem once_forgot (k : List TRow) (n ep sq : Int) (was : Bool) (h : Good k) (ha : askF k n ep sq = (was, 0)) : (forgetF k n ep sq).2 = 0 ∧ Good (forgetF k n ep sq).1 ∧ (askF (forgetF k n ep sq).1 n ep sq).2 = 18 := by
  obtain ⟨hv, r, hr, hre, hrd⟩ := ask_zero h (by rw [ha])
  rcases forget_ways k n ep sq h with ⟨h1, h2⟩ | ⟨q, h1, h2, h3, h4, h5, h6, h7⟩
  · exfalso
    apply h2
    have ho := own_row k n ep sq h.2.1
    rw [if_neg hv, hr] at ho
    dsimp only at ho
    rw [if_neg (by omega), if_neg (by omega)] at ho
    unfold forgetF
    rw [ho, if_neg (by intro x; cases x)]
  · rw [h6]
    refine ⟨rfl, h7, ?_⟩
    show (askF (putR k (cutD sq q)) n ep sq).2 = 18
    rw [ask_forgot k n ep sq q h h1 h2 h5 h7, if_neg hv, if_pos ⟨rfl, rfl, Int.le_refl _⟩]

/-- TableOthers -/
theorem others_ask (rs : List TRow) (n ep sq m s : Int) (h : Good rs) (hne : ¬ (n = m ∧ s = sq)) : askF (decideF rs n ep sq true).1 m ep s = askF rs m ep s := by
  rcases decide_ways rs n ep sq true h with ⟨h1, h2⟩ | ⟨h1, h2⟩ | ⟨h1, h2, h3⟩
  · rw [h2]
  · rw [h2]
  · rw [h2]
    show askF (putR rs (putD sq true (baseR rs n ep))) m ep s = _
    rw [ask_decided rs n ep sq true h h1 h3]
    by_cases hv : m < 0 ∨ ep < 1 ∨ s < 1
    · rw [if_pos hv, h.ask, if_pos hv]
    · rw [if_neg hv]
      by_cases hm : m = n
      · rw [if_pos hm, if_neg (by omega), if_neg (by omega), if_neg (by omega)]
      · rw [if_neg hm]

/-- TableForgets: forgotten again it is the same -/
theorem put_twice : ∀ (rs : List TRow) (x : TRow), putR (putR rs x) x = putR rs x
  | [], x => by rw [putR, putR, if_neg (by omega), if_pos rfl]
  | r :: rs, x => by
    rw [putR]
    by_cases h1 : x.client < r.client
    · rw [if_pos h1, putR, if_neg (by omega), if_pos rfl]
    · rw [if_neg h1]
      by_cases h2 : x.client = r.client
      · rw [if_pos h2, putR, if_neg (by omega), if_pos rfl]
      · rw [if_neg h2, putR, if_neg h1, if_neg h2, put_twice rs x]
theorem cut_twice (dn : Int) (r : TRow) : cutD dn (cutD dn r) = cutD dn r := by
  have hm : max (max r.done dn) dn = max r.done dn := by omega
  show (⟨r.client, r.epoch, max (max r.done dn) dn, above (above r.l (max r.done dn)) (max (max r.done dn) dn)⟩ : TRow) = ⟨r.client, r.epoch, max r.done dn, above r.l (max r.done dn)⟩
  rw [hm]
  have : above (above r.l (max r.done dn)) (max r.done dn) = above r.l (max r.done dn) := by
    unfold above
    rw [List.filter_filter]
    simp
  rw [this]
theorem forget_twice (rs : List TRow) (n ep dn : Int) (h : Good rs) (he : (forgetF rs n ep dn).2 = 0) : forgetF (forgetF rs n ep dn).1 n ep dn = ((forgetF rs n ep dn).1, 0) := by
  rcases forget_ways rs n ep dn h with ⟨h1, h2⟩ | ⟨r, h1, h2, h3, h4, h5, h6, h7⟩
  · exact absurd he h2
  · rw [h6]
    show forgetF (putR rs (cutD dn r)) n ep dn = (putR rs (cutD dn r), 0)
    have hc : (cutD dn r).client = n := (rowAt_client h1).1
    have hr2 : rowAt (putR rs (cutD dn r)) n = some (cutD dn r) := by rw [rowAt_put rs _ n h.2.1, if_pos hc.symm]
    rcases forget_ways (putR rs (cutD dn r)) n ep dn h7 with ⟨g1, g2⟩ | ⟨q, g1, g2, g3, g4, g5, g6, g7⟩
    · exfalso
      apply g2
      have ho := own_row (putR rs (cutD dn r)) n ep dn h7.2.1
      have hee : (cutD dn r).epoch = r.epoch := rfl
      rw [if_neg (by omega), hr2] at ho
      dsimp only at ho
      rw [if_neg (by omega), if_neg (by omega)] at ho
      unfold forgetF
      rw [ho, if_neg (by intro x; cases x)]
    · rw [hr2] at g1
      cases g1
      rw [g6, cut_twice, put_twice]
theorem forgets_ask (rs : List TRow) (n ep dn sq : Int) (h : Good rs) (he : (forgetF rs n ep dn).2 = 0) (h1 : 1 ≤ sq) :
    Good (forgetF rs n ep dn).1 ∧ (sq ≤ dn → (askF (forgetF rs n ep dn).1 n ep sq).2 = 18) ∧ (dn < sq → askF (forgetF rs n ep dn).1 n ep sq = askF rs n ep sq) := by
  rcases forget_ways rs n ep dn h with ⟨g1, g2⟩ | ⟨r, g1, g2, g3, g4, g5, g6, g7⟩
  · exact absurd he g2
  · rw [g6]
    refine ⟨g7, fun hs => ?_, fun hs => ?_⟩
    · show (askF (putR rs (cutD dn r)) n ep sq).2 = 18
      rw [ask_forgot rs n ep dn r h g1 g2 g5 g7, if_neg (by omega), if_pos ⟨rfl, rfl, hs⟩]
    · show askF (putR rs (cutD dn r)) n ep sq = _
      rw [ask_forgot rs n ep dn r h g1 g2 g5 g7, if_neg (by omega), if_neg (by omega)]
theorem forgets_no (rs : List TRow) (n ep dn : Int) (h : Good rs) (he : (forgetF rs n ep dn).2 ≠ 0) : (forgetF rs n ep dn).1 = rs := by
  rcases forget_ways rs n ep dn h with ⟨g1, g2⟩ | ⟨r, g1, g2, g3, g4, g5, g6, g7⟩
  · exact g1
  · rw [g6] at he; exact absurd rfl he

/-- TableEpochs -/
theorem epochs_facts (rs : List TRow) (n ep sq m : Int) (y : Bool) (h : Good rs) (he : (decideF rs n (ep + 1) sq y).2.2 = 0) (h1 : 1 ≤ ep) (h2 : 1 ≤ m) :
    (askF (decideF rs n (ep + 1) sq y).1 n ep m).2 = 17 ∧ (forgetF (decideF rs n (ep + 1) sq y).1 n ep m).2 = 17 ∧ (askF (decideF rs n (ep + 1) sq y).1 n (ep + 2) m).2 = 6 := by
  obtain ⟨hg, ha⟩ := once_yes rs n (ep + 1) sq y h he
  obtain ⟨hv, r, hr, hre, hrd⟩ := ask_zero hg (by rw [ha])
  refine ⟨?_, ?_, ?_⟩
  · rw [hg.ask, if_neg (by omega), hr]
    dsimp only
    rw [if_pos (by omega)]
  · have ho := own_row _ n ep m hg.2.1
    rw [if_neg (by omega), hr] at ho
    dsimp only at ho
    rw [if_pos (by omega)] at ho
    unfold forgetF
    rw [ho]
    rfl
  · rw [hg.ask, if_neg (by omega), hr]
    dsimp only
    rw [if_neg (by omega), if_pos (by omega)]

end Go.Proofs.Ythnajmfbomedlaa
