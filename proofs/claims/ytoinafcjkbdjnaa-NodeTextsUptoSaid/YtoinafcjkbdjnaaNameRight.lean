/- name.Right, copyholdref06.Right: they answer as the document says; old memory is as it was. -/
import Derived.Deep.QuietTactic
import Derived.BigQuiet
import Derived.Test.YtoinafcjkbdjnaaNameChk2
import Derived.IntWalk
set_option linter.unusedVariables false
namespace Go.Proofs.Ytoinafcjkbdjnaa
open Go.RowKit Copyhold Copyhold.Name

theorem rightE_step {l : List Ent} {k : Nat} (h : (List.range k).all (okAt l) = true) : (List.range (k + 1)).all (okAt l) = okAt l k := by
  rw [List.range_succ, List.all_append, h, Bool.true_and]
  simp
theorem rightE_bad {l : List Ent} {k : Nat} (hk : k < l.length) (h : okAt l k = false) : rightE l = false := by
  rw [Bool.eq_false_iff]
  intro hr
  simp only [rightE, Bool.and_eq_true, List.all_eq_true, List.mem_range] at hr
  rw [hr.2 k hk] at h
  cases h
theorem rightE_full {l : List Ent} (hl : l.length ≤ 256) (h : (List.range l.length).all (okAt l) = true) : rightE l = true := by
  simp [rightE, hl, h]
theorem rightE_long {l : List Ent} (hl : ¬ l.length ≤ 256) : rightE l = false := by
  simp [rightE, hl]

/-- the ways of an entry -/
theorem okAt_cases (l : List Ent) (k : Nat) (hk : k < l.length) :
    (okN l[k].1 = false ∧ okAt l k = false) ∨ (okN l[k].1 = true ∧ l[k].2 < 1 ∧ okAt l k = false) ∨
    (okN l[k].1 = true ∧ 1 ≤ l[k].2 ∧ k = 0 ∧ okAt l k = true) ∨ (okN l[k].1 = true ∧ 1 ≤ l[k].2 ∧ 0 < k ∧ okAt l k = Op.bytesLess (l.getD (k - 1) ([], 0)).1 l[k].1) := by
  have e : okAt l k = (okE l[k] && upAt l k l[k]) := by rw [okAt, List.getElem?_eq_getElem hk]
  cases h1 : okN l[k].1
  · exact .inl ⟨rfl, by rw [e]; simp [okE, h1]⟩
  · by_cases h2 : l[k].2 < 1
    · exact .inr (.inl ⟨rfl, h2, by rw [e]; simp only [okE, h1]; rw [decide_eq_false (by omega)]; rfl⟩)
    · have h3 : okE l[k] = true := by simp only [okE, h1]; rw [decide_eq_true (by omega)]; rfl
      rw [h3, Bool.true_and] at e
      by_cases h4 : k = 0
      · exact .inr (.inr (.inl ⟨rfl, by omega, h4, by rw [e]; subst h4; rfl⟩))
      · refine .inr (.inr (.inr ⟨rfl, by omega, by omega, ?_⟩))
        rw [e, upAt, less_eq, show (k == 0) = false from by simpa using h4, Bool.false_or, List.getElem?_eq_getElem (by omega), gete l (k - 1) (by omega)]

set_option maxHeartbeats 4000000 in
theorem ref06_Right (l : List Ent) (A : Option Addr) (c : Nat) (w : World) (hl : Ents w (.slice A l.length c) l) (ho : OkEnts l) (hn : l.length ≤ 5864062014634) :
    Calls Try.prog 30 #[.slice A l.length c] w fun e w' => e = .returned (.bool (rightE l)) ∧ ∃ n, w' = w.drewN n := by
  by_cases hlen : l.length ≤ 256
  · have HL := Lib.hid hl
    have HO := Lib.hid ho
    clear hl ho
    go_enter Try.func30, Try.ntmps30
    go_wp2_with fail
    go_loopw [3] (fun si wr => ∃ k n : Nat, si = .int .i64 k ∧ k ≤ l.length ∧ (List.range k).all (okAt l) = true ∧ wr = w.drewN n) (fun si _ => l.length - (intOf si).toNat)
    case atStart => exact ⟨0, 0, rfl, Nat.zero_le _, rfl, rfl⟩
    case round =>
      obtain ⟨k, n, rfl, hk, hp, rfl⟩ := hrel
      have HST := Lib.hid (rightE_step hp)
      have HP := Lib.hid hp
      clear hp
      by_cases hlt : k < l.length
      · have hcs := okAt_cases l k hlt
        have hbad := rightE_bad (k := k) hlt
        have hok := HO.out l[k] (List.getElem_mem hlt)
        obtain ⟨ho1, ho2, ho3⟩ := hok
        obtain ⟨b, off, rfl, hbk, hc, hc1, hc2⟩ := Ents.at (w := w) HL.out k hlt
        have hprev : 0 < k → w.cell? ⟨b, off + (k - 1) * 2, none⟩ = some (.string ⟨((l.getD (k - 1) ([], 0)).1).toArray⟩) := fun h0 => by
          obtain ⟨b', off', he, _, _, hc3, _⟩ := Ents.at (w := w) HL.out (k - 1) (by omega)
          injection he with he
          injection he with e1 e2
          subst e1 e2
          rw [gete l (k - 1) (by omega)]
          exact hc3
        have hki : (k : Int) < (l.length : Int) := by omega
        have hk0 : (0 : Int) ≤ (k : Int) := by omega
        have HBAD := Lib.hid hbad
        have HPREV := Lib.hid hprev
        clear hbad hprev
        generalize l[k] = x at *
        generalize (l.getD (k - 1) ([], 0)).1 = y at *
        have HC2 := Lib.hid hc2
        rcases hcs with ⟨h1, h2⟩ | ⟨h1, h2, h3⟩ | ⟨h1, h2, h3, h4⟩ | ⟨h1, h2, h3, h4⟩
        · have HR := Lib.hid (HBAD.out h2)
          have HC := Lib.hid (ref06_Check x.1 (w.drewN n) ho1)
          rw [checkD, h1] at HC
          clear h1 h2
          go_wp2_with fail
          refine HC.out.mono ?_
          rintro e w1 ⟨rfl, rfl⟩
          go_wp2_with fail
          go_quiet (fail)
          go_wp2_with fail
          go_ret
          exact ⟨by rw [HR.out]; rfl, _, World.drewN_drewN _ _ _⟩
        · have HR := Lib.hid (HBAD.out h3)
          have HC := Lib.hid (ref06_Check x.1 (w.drewN n) ho1)
          rw [checkD, h1] at HC
          clear h1 h3
          go_wp2_with fail
          refine HC.out.mono ?_
          rintro e w1 ⟨rfl, rfl⟩
          go_wp2_with fail
          go_quiet (fail)
          go_wp2_with fail
          go_ret
          exact ⟨by rw [HR.out]; rfl, _, World.drewN_drewN _ _ _⟩
        · have HS2 := Lib.hid (HST.out.trans h4)
          have HC := Lib.hid (ref06_Check x.1 (w.drewN n) ho1)
          rw [checkD, h1] at HC
          subst h3
          rw [Nat.zero_mul, Nat.add_zero] at hc1 hc2
          have hd : decide (x.2 < 1) = false := by simpa using h2
          clear h1 h4
          go_wp2_with fail
          refine HC.out.mono ?_
          rintro e w1 ⟨rfl, rfl⟩
          go_wp2_with fail
          go_quiet (fail)
          go_wp2_with fail
          go_roundw
          case rel => exact ⟨1, _, by go_num, by omega, HS2.out, rfl⟩
          case measure => simp [intOf]; omega
        · have hc3 := HPREV.out h3
          have hk1 : (0 : Int) < (k : Int) := by omega
          have hkm : IntKind.i64.wrap ((k : Int) - 1) = (k : Int) - 1 := IntWalk.i64_in _ (by omega)
          have hk2 : (0 : Int) ≤ (k : Int) - 1 := by omega
          have hk4 : (k : Int) - 1 < (l.length : Int) := by omega
          have hk3 : ((k : Int) - 1).toNat = k - 1 := by omega
          have hd : decide (x.2 < 1) = false := by simpa using h2
          cases hq : Op.bytesLess y x.1
          · have HR := Lib.hid (HBAD.out (h4.trans hq))
            have HC := Lib.hid (ref06_Check x.1 (w.drewN n) ho1)
            rw [checkD, h1] at HC
            clear h1 h4
            go_wp2_with fail
            refine HC.out.mono ?_
            rintro e w1 ⟨rfl, rfl⟩
            go_wp2_with fail
            go_quiet (fail)
            go_wp2_with fail
            go_ret
            exact ⟨by rw [HR.out]; rfl, _, World.drewN_drewN _ _ _⟩
          · have HS2 := Lib.hid (HST.out.trans (h4.trans hq))
            have HC := Lib.hid (ref06_Check x.1 (w.drewN n) ho1)
            rw [checkD, h1] at HC
            clear h1 h4
            go_wp2_with fail
            refine HC.out.mono ?_
            rintro e w1 ⟨rfl, rfl⟩
            go_wp2_with fail
            go_quiet (fail)
            go_wp2_with fail
            go_roundw
            case rel => exact ⟨k + 1, _, by go_num, by omega, HS2.out, rfl⟩
            case measure => simp [intOf]; omega
      · have hfin := rightE_full hlen (by rw [show l.length = k from by omega]; exact HP.out)
        have HF := Lib.hid hfin
        clear hfin
        go_wp2_with fail
        go_ret
        exact ⟨by rw [HF.out]; rfl, _, rfl⟩
  · have HF := Lib.hid (rightE_long hlen)
    go_enter Try.func30, Try.ntmps30
    go_wp2_with fail
    go_ret
    exact ⟨by rw [HF.out]; rfl, 0, rfl⟩
end Go.Proofs.Ytoinafcjkbdjnaa
