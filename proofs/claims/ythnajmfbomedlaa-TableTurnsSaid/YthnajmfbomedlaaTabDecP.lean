/- copyholdref14.Decide, where Ask tells of none: the document's own answer; old memory is as it was. -/
import Derived.Test.YthnajmfbomedlaaTabForg2
set_option linter.unusedVariables false
set_option linter.unusedSimpArgs false
namespace Go.Proofs.Ythnajmfbomedlaa
open Go.RowKit Copyhold

theorem decs_flat : ∀ (css : List (List Value)) (l : List (Int × Bool)), Fit DecR 2 css l → css.flatten = l.flatMap decC
  | [], [], _ => rfl
  | [], d :: l, h => by have := h.1; simp at this
  | c :: css, [], h => by have := h.1; simp at this
  | c :: css, d :: l, h => by
    have h0 := h.2 0 c d rfl rfl
    have ih := decs_flat css l ⟨by simpa using h.1, fun i cs a hc ha => h.2 (i + 1) cs a (by simpa using hc) (by simpa using ha)⟩
    rw [List.flatten_cons, List.flatMap_cons, ih, h0.2.1]
    rfl

def lowD (l : List (Int × Bool)) (sq : Int) (k : Nat) : Prop := ∀ j (hj : j < l.length), j < k → l[j].1 < sq
theorem ins_at (sq : Int) (y : Bool) : ∀ (l : List (Int × Bool)) (j : Nat), j ≤ l.length → lowD l sq j → (∀ h : j < l.length, ¬ l[j].1 < sq) → insD l sq y = l.take j ++ ([(sq, y)] ++ l.drop j)
  | [], j, _, _, _ => by simp [insD, placeN]
  | d :: l, 0, _, _, hn => by
    have h0 : ¬ d.1 < sq := hn (by simp)
    rw [insD_cons, if_pos (by omega)]
    rfl
  | d :: l, j + 1, hj, hl, hn => by
    have h0 : d.1 < sq := hl 0 (by simp) (by omega)
    rw [insD_cons, if_neg (by omega), ins_at sq y l j (by simpa using hj) (fun i hi hij => hl (i + 1) (by simpa using hi) (by omega)) (fun h => hn (by simpa using h))]
    rfl
theorem full_is (rs : List TRow) (n ep sq : Int) (h : Good rs) (ha : (askF rs n ep sq).2 = 6) : fullF rs n ep sq = (((rowAt rs n).isNone && decide (64 ≤ rs.length)) || decide (256 ≤ (baseR rs n ep).l.length)) := by
  obtain ⟨a1, a2, a3, a4, a5, a6⟩ := ask_six rs n ep sq h ha
  obtain ⟨p1, p2⟩ := place_row rs n h.2.1
  unfold fullF
  rw [own_row rs n ep sq h.2.1, if_neg (by omega), p1]
  cases hr : rowAt rs n with
  | none =>
    have hb : baseR rs n ep = ⟨n, ep, 0, []⟩ := by unfold baseR; rw [hr]
    rw [hb]
    simp
  | some r =>
    have := a6 r hr
    dsimp only
    by_cases c : r.epoch = ep
    · have hb : baseR rs n ep = r := by unfold baseR; rw [hr]; simp [c]
      rw [hb, if_neg (by omega), if_neg (by omega)]
      simp
    · have hb : baseR rs n ep = ⟨n, ep, 0, []⟩ := by unfold baseR; rw [hr]; simp [c]
      rw [hb, if_neg (by omega), if_pos (by omega)]
      simp

end Go.Proofs.Ythnajmfbomedlaa

