/- name.Right: it answers as the document says; old memory is as it was. -/
import Derived.Test.YtoinafcjkbdjnaaNameRight
set_option linter.unusedVariables false
namespace Go.Proofs.Ytoinafcjkbdjnaa
open Go.RowKit Copyhold Copyhold.Name

set_option maxHeartbeats 4000000 in
theorem name_Right (l : List Ent) (A : Option Addr) (c : Nat) (w : World) (hl : Ents w (.slice A l.length c) l) (ho : OkEnts l) (hn : l.length ≤ 5864062014634) :
    Calls Try.prog 29 #[.slice A l.length c] w fun e w' => e = .returned (.bool (rightE l)) ∧ Below w.heap.size w w' := by
  by_cases hlen : l.length ≤ 256
  · have HL := Lib.hid hl
    have HO := Lib.hid ho
    clear hl ho
    go_enter Try.func29, Try.ntmps29
    go_wp2_with fail
    go_loopw [10] (fun si wr => ∃ k : Nat, si = .int .i64 k ∧ k ≤ l.length ∧ (List.range k).all (okAt l) = true ∧ Below w.heap.size w wr) (fun si _ => l.length - (intOf si).toNat)
    case atStart => exact ⟨0, rfl, Nat.zero_le _, rfl, Below.refl _ _⟩
    case round =>
      obtain ⟨k, rfl, hk, hp, hb⟩ := hrel
      have hbz := hb.size
      have HBB := Lib.hid hb
      clear hb
      have HST := Lib.hid (rightE_step hp)
      have HP := Lib.hid hp
      clear hp
      by_cases hlt : k < l.length
      · have hcs := okAt_cases l k hlt
        have hbad := rightE_bad (k := k) hlt
        have hok := HO.out l[k] (List.getElem_mem hlt)
        obtain ⟨ho1, ho2, ho3⟩ := hok
        obtain ⟨b, off, rfl, hbk, hc, hc1, hc2⟩ := Ents.at (w := wr) (HL.out.below HBB.out) k hlt
        have hprev : 0 < k → wr.cell? ⟨b, off + (k - 1) * 2, none⟩ = some (.string ⟨((l.getD (k - 1) ([], 0)).1).toArray⟩) := fun h0 => by
          obtain ⟨b', off', he, _, _, hc3, _⟩ := Ents.at (w := wr) (HL.out.below HBB.out) (k - 1) (by omega)
          injection he with he
          injection he with e1 e2
          subst e1 e2
          rw [gete l (k - 1) (by omega)]
          exact hc3
        have hki : (k : Int) < (l.length : Int) := by omega
        have hk0 : (0 : Int) ≤ (k : Int) := by omega
        have HBAD := Lib.hid hbad
        have HPREV := Lib.hid hprev
        clear hbad hprev
        generalize l[k] = x at *
        generalize (l.getD (k - 1) ([], 0)).1 = y at *
        have HC2 := Lib.hid hc2
        rcases hcs with ⟨h1, h2⟩ | ⟨h1, h2, h3⟩ | ⟨h1, h2, h3, h4⟩ | ⟨h1, h2, h3, h4⟩
        · have HR := Lib.hid (HBAD.out h2)
          have HC := Lib.hid (name_Check x.1 (wr.alloc (.cells #[.string ⟨x.1.toArray⟩, .int .i64 x.2] 39)) ho1)
          rw [checkD, h1] at HC
          clear h1 h2
          go_wp2_with fail
          refine HC.out.mono ?_
          rintro e w1 ⟨rfl, rfl⟩
          go_wp2_with fail
          go_ret
          exact ⟨by rw [HR.out]; rfl, HBB.out.alloc HBB.out.size _⟩
        · have HR := Lib.hid (HBAD.out h3)
          have HC := Lib.hid (name_Check x.1 (wr.alloc (.cells #[.string ⟨x.1.toArray⟩, .int .i64 x.2] 39)) ho1)
          rw [checkD, h1] at HC
          clear h1 h3
          go_wp2_with fail
          refine HC.out.mono ?_
          rintro e w1 ⟨rfl, rfl⟩
          go_wp2_with fail
          go_ret
          exact ⟨by rw [HR.out]; rfl, HBB.out.alloc HBB.out.size _⟩
        · have HS2 := Lib.hid (HST.out.trans h4)
          have HC := Lib.hid (name_Check x.1 (wr.alloc (.cells #[.string ⟨x.1.toArray⟩, .int .i64 x.2] 39)) ho1)
          rw [checkD, h1] at HC
          subst h3
          rw [Nat.zero_mul, Nat.add_zero] at hc1 hc2
          have hd : decide (x.2 < 1) = false := by simpa using h2
          clear h1 h4
          go_wp2_with fail
          refine HC.out.mono ?_
          rintro e w1 ⟨rfl, rfl⟩
          go_wp2_with fail
          go_quiet (fail)
          go_wp2_with fail
          go_roundw
          case rel => exact ⟨1, by go_num, by omega, HS2.out, below_dn (HBB.out.alloc HBB.out.size _) _⟩
          case measure => simp [intOf]; omega
        · have hc3 := HPREV.out h3
          have hk1 : (0 : Int) < (k : Int) := by omega
          have hkm : IntKind.i64.wrap ((k : Int) - 1) = (k : Int) - 1 := IntWalk.i64_in _ (by omega)
          have hk2 : (0 : Int) ≤ (k : Int) - 1 := by omega
          have hk4 : (k : Int) - 1 < (l.length : Int) := by omega
          have hk3 : ((k : Int) - 1).toNat = k - 1 := by omega
          have hd : decide (x.2 < 1) = false := by simpa using h2
          cases hq : Op.bytesLess y x.1
          · have HR := Lib.hid (HBAD.out (h4.trans hq))
            have HC := Lib.hid (name_Check x.1 (wr.alloc (.cells #[.string ⟨x.1.toArray⟩, .int .i64 x.2] 39)) ho1)
            rw [checkD, h1] at HC
            clear h1 h4
            go_wp2_with fail
            refine HC.out.mono ?_
            rintro e w1 ⟨rfl, rfl⟩
            go_wp2_with fail
            go_quiet (fail)
            go_wp2_with fail
            go_ret
            exact ⟨by rw [HR.out]; rfl, below_dn (HBB.out.alloc HBB.out.size _) _⟩
          · have HS2 := Lib.hid (HST.out.trans (h4.trans hq))
            have HC := Lib.hid (name_Check x.1 (wr.alloc (.cells #[.string ⟨x.1.toArray⟩, .int .i64 x.2] 39)) ho1)
            rw [checkD, h1] at HC
            clear h1 h4
            go_wp2_with fail
            refine HC.out.mono ?_
            rintro e w1 ⟨rfl, rfl⟩
            go_wp2_with fail
            go_quiet (fail)
            go_wp2_with fail
            go_roundw
            case rel => exact ⟨k + 1, by go_num, by omega, HS2.out, below_dn (HBB.out.alloc HBB.out.size _) _⟩
            case measure => simp [intOf]; omega
      · have hfin := rightE_full hlen (by rw [show l.length = k from by omega]; exact HP.out)
        have HF := Lib.hid hfin
        clear hfin
        go_wp2_with fail
        go_ret
        exact ⟨by rw [HF.out]; rfl, HBB.out⟩
  · have HF := Lib.hid (rightE_long hlen)
    go_enter Try.func29, Try.ntmps29
    go_wp2_with fail
    go_ret
    exact ⟨by rw [HF.out]; rfl, Below.refl _ _⟩
end Go.Proofs.Ytoinafcjkbdjnaa
