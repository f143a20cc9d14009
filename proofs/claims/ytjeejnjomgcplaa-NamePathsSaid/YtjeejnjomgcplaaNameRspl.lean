/- copyholdref06.Split, and the document's example: they answer as the document says; old memory is as it was. -/
import Derived.Test.YtjeejnjomgcplaaNameSpli2
import Derived.Test.YtjeejnjomgcplaaNameChk2
set_option linter.unusedVariables false
namespace Go.Proofs.Ytjeejnjomgcplaa
open Go.RowKit Copyhold Copyhold.Name
attribute [local go_sem] piece

/-- what is still to come, at byte k, where s stands since the last slash -/
def restAt (p s : List UInt8) (k : Nat) : List (List UInt8) := if k ≤ p.length then namesP (s ++ p.drop k) else []

theorem restAt_on {p s : List UInt8} {k : Nat} (hk : k < p.length) : restAt p (s ++ [p[k]]) (k + 1) = restAt p s k := by
  rw [restAt, restAt, if_pos (by omega), if_pos (by omega), List.append_assoc]
  congr 2
  rw [List.drop_eq_getElem_cons hk]
  rfl
theorem restAt_end {p s : List UInt8} {k : Nat} (hk : k ≤ p.length) (hs : (47 : UInt8) ∉ s) (h : ∀ hlt : k < p.length, p[k] = 47) : restAt p s k = (if counts s then [s] else []) ++ restAt p [] (k + 1) := by
  rw [restAt, if_pos hk, restAt]
  by_cases hlt : k < p.length
  · rw [if_pos (show k + 1 ≤ p.length from by omega), List.drop_eq_getElem_cons hlt, h hlt, names_cut hs, List.nil_append]
  · rw [if_neg (show ¬ k + 1 ≤ p.length from by omega), List.drop_eq_nil_of_le (by omega), List.append_nil, names_one hs, List.append_nil]

theorem byte_int {c d : UInt8} : (c.toNat : Int) = (d.toNat : Int) ↔ c = d := by
  constructor
  · intro h; exact UInt8.toNat_inj.1 (by omega)
  · rintro rfl; rfl

set_option maxHeartbeats 4000000 in
theorem ref06_Split (p : List UInt8) (hp : p.length ≤ 1000000) (w : World) : Calls Try.prog 13 #[.string ⟨p.toArray⟩] w (RetSp w (splitD p)) := by
  cases p with
  | nil =>
    have hsd : splitD [] = ([], 10) := rfl
    go_enter Try.func13, Try.ntmps13
    go_wp2_with fail
    go_ret2
    exact ⟨_, by rw [hsd]; rfl, by rw [hsd]; exact .inl ⟨none, 0, rfl, rfl⟩, Below.refl _ _⟩
  | cons a r =>
  obtain ⟨p, hpe⟩ : ∃ p, p = a :: r := ⟨_, rfl⟩
  have hpos : 0 < p.length := by rw [hpe]; simp
  have hlt2 : 0 < (⟨p.toArray⟩ : ByteArray).size := by simpa [ByteArray.size] using hpos
  have hx : (((⟨p.toArray⟩ : ByteArray)[0]'hlt2).toNat : Int) = (p[0].toNat : Int) := rfl
  have ha : p[0] = a := by simp [hpe]
  rw [ha] at hx
  by_cases h47 : a = 47
  · have hrest : namesP p = restAt p [] 1 := by
      rw [restAt, if_pos (by omega), hpe, h47]
      rw [show (47 : UInt8) :: r = [] ++ 47 :: r from rfl, names_cut (by simp)]
      rfl
    have hsd : splitD p = if (namesP p).all okN then (namesP p, 0) else ([], 10) := by
      rw [splitD, if_pos (by rw [hpe, h47]; rfl)]
    rw [← hpe] at hp ⊢
    have HSD := Lib.hid hsd
    have HREST := Lib.hid hrest
    have hx2 : (((⟨p.toArray⟩ : ByteArray)[0]'hlt2).toNat : Int) = 47 := by rw [hx, h47]; rfl
    have hd0 : ((p.length : Int) == 0) = false := by rw [beq_eq_false_iff_ne]; omega
    clear hx ha hrest hsd hpe h47
    go_enter Try.func13, Try.ntmps13
    go_wp2_with fail
    go_loopw [4, 5, 6] (fun so ss si wr => ∃ (k : Nat) (acc : List (List UInt8)) (s : List UInt8), si = .int .i64 k ∧ ss = .string ⟨s.toArray⟩ ∧ 1 ≤ k ∧ k ≤ p.length + 1 ∧ acc.length + s.length ≤ k ∧ (47 : UInt8) ∉ s ∧ (∀ x ∈ acc, okN x = true) ∧ acc ++ restAt p s k = namesP p ∧
      wr.ownsRow w.heap.size 9 1 so acc.length (acc.map strV) ∧ Below w.heap.size w wr) (fun _ _ si _ => p.length + 1 - (intOf si).toNat)
    case atStart => exact ⟨1, [], [], rfl, rfl, by omega, by omega, by simp, by simp, by simp, by rw [HREST.out]; rfl, by simpa using World.ownsRow_nil w w.heap.size 9 1, Below.refl _ _⟩
    case round =>
      obtain ⟨k, acc, s, rfl, rfl, hk1, hk2, hal, hs47, hok, hnm, hown, hb⟩ := hrel
      have HNM := Lib.hid hnm
      have HOK := Lib.hid hok
      have HOWN := Lib.hid hown
      have HB := Lib.hid hb
      have HS47 := Lib.hid hs47
      clear hnm hok hown hb hx2 hd0
      by_cases hkl : k ≤ p.length
      · by_cases hmid : ∃ hlt : k < p.length, p[k] ≠ 47
        · obtain ⟨hlt, hne⟩ := hmid
          have hlt3 : k < (⟨p.toArray⟩ : ByteArray).size := by simpa [ByteArray.size] using hlt
          have hx : (((⟨p.toArray⟩ : ByteArray)[k]'hlt3).toNat : Int) = (p[k].toNat : Int) := rfl
          have hn1 : ((p[k].toNat : Int) == 47) = false := by
            rw [beq_eq_false_iff_ne]
            exact fun h => hne ((byte_int (d := 47)).1 h)
          have hpc : (p.take (k + 1)).drop k = [p[k]] := by
            rw [List.take_succ_eq_append_getElem hlt, List.drop_append, List.drop_of_length_le (by simp; omega)]
            simp [Nat.min_eq_left (Nat.le_of_lt hlt)]
          have HPC := Lib.hid hpc
          have HR := Lib.hid (restAt_on (s := s) hlt)
          have hi1 : (k : Int) < (p.length : Int) := by omega
          have h47' : (47 : UInt8) ∉ s ++ [p[k]] := by
            intro h
            rcases List.mem_append.1 h with h | h
            · exact HS47.out h
            · simp at h; exact hne h.symm
          have H47 := Lib.hid h47'
          clear hpc h47' hne hs47
          generalize p[k] = c at *
          go_wp2_with fail
          go_roundw
          case rel => exact ⟨k + 1, acc, s ++ [c], by go_num, by rw [HPC.out], by omega, by omega, by simp; omega, H47.out, HOK.out, by rw [HR.out]; exact HNM.out, HOWN.out, HB.out⟩
          case measure => simp [intOf]; omega
        · have hend : ∀ hlt : k < p.length, p[k] = 47 := fun hlt => Classical.byContradiction fun h => hmid ⟨hlt, h⟩
          have hre := restAt_end hkl hs47 hend
          have HRE := Lib.hid hre
          have hin : ∀ x ∈ (if counts s then [s] else []), x ∈ namesP p := fun x hx => by
            rw [← HNM.out, HRE.out]
            simp only [List.mem_append]
            exact .inr (.inl hx)
          have HIN := Lib.hid hin
          have hway : (∃ hlt3 : k < (⟨p.toArray⟩ : ByteArray).size, k < p.length ∧ (((⟨p.toArray⟩ : ByteArray)[k]'hlt3).toNat : Int) = 47) ∨ decide (k < p.length) = false := by
            by_cases hlt : k < p.length
            · refine .inl ⟨by simpa [ByteArray.size] using hlt, hlt, ?_⟩
              show (p[k].toNat : Int) = 47
              rw [hend hlt]
              rfl
            · exact .inr (decide_eq_false hlt)
          clear hre hmid hend hs47 hin
          by_cases hc : counts s = true
          · have e1 : (s == []) = false := by
              cases s with
              | nil => simp [counts] at hc
              | cons x y => rfl
            have e2 : (s == [46]) = false := by
              rw [beq_eq_false_iff_ne]
              rintro rfl
              simp [counts] at hc
            rw [if_pos hc] at HRE HIN
            have HC := Lib.hid (fun W : World => ref06_Check s W (by omega))
            clear hc
            cases hk : okN s
            · rw [checkD, hk] at HC
              have hbad : splitD p = ([], 10) := by
                rw [HSD.out, if_neg]
                rw [List.all_eq_true]
                intro h
                have := h s (HIN.out s (by simp))
                rw [hk] at this
                cases this
              have HBAD := Lib.hid hbad
              clear hk hbad
              rcases hway with ⟨hlt3, hlt4, hx⟩ | hd
              all_goals
                go_wp2_with fail
                refine (HC.out _).mono ?_
                rintro e w1 ⟨rfl, rfl⟩
                go_wp2_with fail
                go_ret2
                exact ⟨_, by rw [HBAD.out]; rfl, by rw [HBAD.out]; exact .inl ⟨none, 0, rfl, rfl⟩, HB.out⟩
            · rw [checkD, hk] at HC
              have HK := Lib.hid hk
              clear hk
              obtain ⟨v', w', hrun, ho, hgr, _⟩ := append_sl textElem (wr.alloc (.cells #[strV s] 9)) w.heap.size 25 u4 acc.length _ (HOWN.out.alloc _) _ 1 [strV s] (sl1 _ _ _) (fun u hu => by simp at hu; subst hu; rfl) (by unfold maxLen; omega) (by omega) (by have := HB.out.size; simp; omega)
              have HO' := Lib.hid ho
              have HB' := Lib.hid ((HB.out.alloc HB.out.size (.cells #[strV s] 9)).grown hgr (by have := HB.out.size; simp; omega) (fun q hq => (own_block_ge HOWN.out q hq).1))
              have hspos : 1 ≤ s.length := by
                cases s with
                | nil => simp at e1
                | cons x y => simp
              clear ho hgr
              unfold strV at hrun
              rcases hway with ⟨hlt3, hlt4, hx⟩ | hd
              all_goals
                go_wp2_with fail
                refine (HC.out _).mono ?_
                rintro e w1 ⟨rfl, rfl⟩
                go_wp2_with (at_builtin; refine wpList_append_run rfl _ _ _ rfl _ _ _ _ rfl rfl hrun ?_)
                go_roundw
                case rel => exact ⟨k + 1, acc ++ [s], [], by go_num, rfl, by omega, by omega, by simp; omega, by simp, fun x hx => (List.mem_append.1 hx).elim (HOK.out x) (fun h => by simp at h; rw [h]; exact HK.out), by rw [List.append_assoc, ← HRE.out]; exact HNM.out, by rw [List.length_append, List.map_append]; exact HO'.out, HB'.out⟩
                case measure => simp [intOf]; omega
          · have hor : s = [] ∨ s = [46] := by
              have hca : counts s = false := by simpa using hc
              simp only [counts, Bool.and_eq_false_iff, Bool.not_eq_false', beq_iff_eq] at hca
              exact hca
            rw [if_neg hc, List.nil_append] at HRE
            clear hc HIN
            rcases hor with rfl | rfl
            all_goals
              rcases hway with ⟨hlt3, hlt4, hx⟩ | hd
              all_goals
                go_wp2_with fail
                go_roundw
                case rel => exact ⟨k + 1, acc, [], by go_num, rfl, by omega, by omega, by simp at hal ⊢; omega, by simp, HOK.out, by rw [← HRE.out]; exact HNM.out, HOWN.out, HB.out⟩
                case measure => simp [intOf]; omega
      · obtain rfl : k = p.length + 1 := by omega
        have hfin : acc = namesP p := by
          have := HNM.out
          rwa [restAt, if_neg (by omega), List.append_nil] at this
        have hgood : splitD p = (acc, 0) := by
          rw [HSD.out, ← hfin, if_pos]
          rw [List.all_eq_true]
          exact HOK.out
        have HG := Lib.hid hgood
        have hd : decide (((p.length : Int) + 1) ≤ (p.length : Int)) = false := by rw [decide_eq_false_iff_not]; omega
        clear hfin hgood hs47
        go_wp2_with fail
        go_ret2
        exact ⟨_, by rw [HG.out]; rfl, by rw [HG.out]; exact Row.of_owns HOWN.out, HB.out⟩
  · have hsd : splitD p = ([], 10) := by
      rw [splitD, if_neg]
      rw [hpe]
      simp [h47]
    rw [← hpe] at hp ⊢
    have HSD := Lib.hid hsd
    have hn1 : ((a.toNat : Int) == 47) = false := by
      rw [beq_eq_false_iff_ne]
      exact fun h => h47 ((byte_int (d := 47)).1 h)
    have hd0 : ((p.length : Int) == 0) = false := by rw [beq_eq_false_iff_ne]; omega
    clear ha hsd hpe h47
    go_enter Try.func13, Try.ntmps13
    go_wp2_with fail
    go_ret2
    exact ⟨_, by rw [HSD.out]; rfl, by rw [HSD.out]; exact .inl ⟨none, 0, rfl, rfl⟩, Below.refl _ _⟩
end Go.Proofs.Ytjeejnjomgcplaa
