/- disk.Right: it answers as the document says; old memory is as it was. -/
import Derived.Test.YtahnkkmngbckdaaDisk1
set_option linter.unusedVariables false
namespace Copyhold.Disk
open Go Go.RowKit
/-- a disk as a program may have it -/
def OkD (d : DiskW) : Prop := d.kept.length ≤ 8796093022208 ∧ (∀ l ∈ d.kept, l.length ≤ 140737488351232) ∧ OkPuts d.w ∧ d.w.length ≤ 5864062014634
def diskC (d : DiskW) (A : Option Addr) (c : Nat) (B : Option Addr) (e : Nat) : List Value := [.slice A d.kept.length c, .slice B d.w.length e, .bool d.off]
/-- a disk's value, and what its rows read as -/
def DiskV (w : World) (v : Value) (d : DiskW) : Prop := ∃ A c B e, v = .agg #[.slice A d.kept.length c, .slice B d.w.length e, .bool d.off] ∧ Row w (.slice A d.kept.length c) (d.kept.map strV) ∧ Puts w (.slice B d.w.length e) d.w
theorem DiskV.below {w w' : World} {v : Value} {d : DiskW} (h : DiskV w v d) (hb : Below w.heap.size w w') : DiskV w' v d := by
  obtain ⟨A, c, B, e, rfl, h1, h2⟩ := h
  exact ⟨A, c, B, e, rfl, h1.below hb, h2.below hb⟩
end Copyhold.Disk
namespace Go.Proofs.Ytahnkkmngbckdaa
open Go.RowKit Copyhold Copyhold.Disk

set_option maxHeartbeats 4000000 in
theorem disk_Right (d : DiskW) (v : Value) (w : World) (hv : DiskV w v d) (hok : OkD d) :
    Calls Try.prog 14 #[v] w fun e w' => e = .returned (.bool (decide (Right d))) ∧ Below w.heap.size w w' := by
  obtain ⟨A, c, B, eb, rfl, hk, hp⟩ := hv
  obtain ⟨kept, ws, off⟩ := d
  obtain ⟨hn, hkl, hpl, hm⟩ := hok
  simp only at hk hp hn hkl hpl hm ⊢
  have hin : (1 ≤ kept.length ∧ kept.length ≤ 4096) ∨ kept.length < 1 ∨ 4096 < kept.length := by omega
  rcases hin with hin | hout
  · obtain ⟨W0, hW0⟩ : ∃ W, W = w.alloc (.cells #[.slice A kept.length c, .slice B ws.length eb, .bool off] 25) := ⟨_, rfl⟩
    have hb0 : Below w.heap.size w W0 := by rw [hW0]; exact (Below.refl _ _).alloc (Nat.le_refl _) _
    have HB := Lib.hid (show TBox W0 w.heap.size 25 #[.slice A kept.length c, .slice B ws.length eb, .bool off] from by rw [hW0]; exact TBox.new _ _ _)
    have HK := Lib.hid (hk.below hb0)
    have HP := Lib.hid (hp.below hb0)
    have BW := Lib.hid hb0
    have HW := Lib.hid hW0
    have HIN := Lib.hid hin
    have h1 := hin.1
    have h2 := hin.2
    clear hW0 hb0 hk hp hin
    go_enter Try.func14, Try.ntmps14
    go_wp2_with fail
    rw [← HW.out]
    have c0 : W0.cell? ⟨w.heap.size, 0, none⟩ = some (.slice A kept.length c) := HB.out.cell 0
    have c1 : W0.cell? ⟨w.heap.size, 1, none⟩ = some (.slice B ws.length eb) := HB.out.cell 1
    go_wp2_with fail
    go_loop [20] (fun i => ∃ k : Nat, k ≤ kept.length ∧ i = .int .i64 k ∧ ∀ j : Nat, j < k → ∀ l, kept[j]? = some l → l.length = 64) (fun i => kept.length - (intOf i).toNat)
    case atStart => exact ⟨0, Nat.zero_le _, rfl, fun j hj => absurd hj (Nat.not_lt_zero _)⟩
    case round =>
      obtain ⟨k, hk, rfl, hall⟩ := hrel
      have HALL := Lib.hid hall
      clear hall
      by_cases hlt : k < kept.length
      · obtain ⟨b, off', rfl, hbk, _, hcs⟩ := HK.out.at k (x := strV kept[k]) (by simp [hlt])
        have hc : W0.cell? ⟨b, off' + k, none⟩ = some (.string ⟨(kept[k]).toArray⟩) := hcs k (strV kept[k]) (by simp [hlt])
        have hget : kept[k]? = some kept[k] := List.getElem?_eq_getElem hlt
        have HG := Lib.hid hget
        have hx := hkl kept[k] (List.getElem_mem hlt)
        have hmem : kept[k] ∈ kept := List.getElem_mem hlt
        clear hcs hget
        generalize kept[k] = x at *
        by_cases h64 : x.length = 64
        · have hxe : (((x.length : Nat) : Int) != 64) = false := by rw [h64]; rfl
          have HGE := Lib.hid h64
          go_wp2_with fail
          go_round
          case rel => exact ⟨k + 1, by omega, by go_num, fun j hj l hl => by
            by_cases hjk : j < k
            · exact HALL.out j hjk l hl
            · obtain rfl : j = k := by omega
              have e := HG.out.symm.trans hl
              simp only [Option.some.injEq] at e
              rw [← e]; exact HGE.out⟩
          case measure => simp [intOf]; omega
        · have hxe : (((x.length : Nat) : Int) != 64) = true := by rw [bne_iff_ne]; omega
          have hf : decide (Right ⟨kept, ws, off⟩) = false := by
            rw [decide_eq_false_iff_not]
            intro hr
            exact h64 (hr.2.1 x hmem)
          have HF := Lib.hid hf
          clear hf
          go_wp2_with fail
          go_ret
          exact ⟨by rw [HF.out]; rfl, BW.out⟩
      · obtain rfl : k = kept.length := by omega
        have hk64 : ∀ l ∈ kept, l.length = 64 := fun l hl => by
          obtain ⟨j, hj, rfl⟩ := List.getElem_of_mem hl
          exact HALL.out j hj _ (List.getElem?_eq_getElem hj)
        have H64 := Lib.hid hk64
        clear hk64 HALL
        go_wp2_with fail
        go_loopw [31] (fun i wr => ∃ k : Nat, k ≤ ws.length ∧ i = .int .i64 k ∧ (∀ j : Nat, j < k → ∀ p, ws[j]? = some p → (0 ≤ p.1 ∧ p.1 < kept.length) ∧ p.2.length = 64) ∧ Below W0.heap.size W0 wr) (fun i _ => ws.length - (intOf i).toNat)
        case atStart => exact ⟨0, Nat.zero_le _, rfl, fun j hj => absurd hj (Nat.not_lt_zero _), Below.refl _ _⟩
        case round =>
          obtain ⟨k, hk, rfl, hall, hbw⟩ := hrel
          have HALL := Lib.hid hall
          have HBW := Lib.hid hbw
          clear hall hbw c0 c1
          by_cases hlt : k < ws.length
          · obtain ⟨b, off', rfl, hbk, _, hc0, hc1⟩ := HP.out.at k hlt
            have e0 := (HBW.out.cell (p := ⟨b, off' + k * 2, none⟩) hbk).trans hc0
            have e1 := (HBW.out.cell (p := ⟨b, off' + k * 2 + 1, none⟩) hbk).trans hc1
            have hget : ws[k]? = some ws[k] := List.getElem?_eq_getElem hlt
            have HG := Lib.hid hget
            obtain ⟨hx, hx1, hx2⟩ := hpl ws[k] (List.getElem_mem hlt)
            have hmem : ws[k] ∈ ws := List.getElem_mem hlt
            clear hc0 hc1 hget
            generalize ws[k] = x at *
            obtain ⟨i, s⟩ := x
            simp only at e0 e1 hx hx1 hx2
            obtain ⟨V, hV⟩ : ∃ V, V = wr.alloc (.cells #[.int .i64 i, .string ⟨s.toArray⟩] 56) := ⟨_, rfl⟩
            have hbV : Below W0.heap.size W0 V := by rw [hV]; exact HBW.out.alloc HBW.out.size _
            have t0 := HB.out.below hbV
            have tw := HB.out.below HBW.out
            have d0 : wr.cell? ⟨w.heap.size, 0, none⟩ = some (.slice A kept.length c) := tw.cell 0
            have d1 : wr.cell? ⟨w.heap.size, 1, none⟩ = some (.slice (some ⟨b, off', none⟩) ws.length eb) := tw.cell 1
            have d2 : wr.cell? ⟨w.heap.size, 2, none⟩ = some (.bool off) := tw.cell 2
            have dl : w.heap.size < wr.heap.size := tw.lt
            have tn : TBox V wr.heap.size 56 #[.int .i64 i, .string ⟨s.toArray⟩] := by rw [hV]; exact TBox.new _ _ _
            have HTN := Lib.hid tn
            have HV := Lib.hid hV
            have HBV := Lib.hid hbV
            clear hV hbV t0 tn tw
            have HTH := Lib.hid (fun W => disk_there A (some ⟨b, off', none⟩) kept.length ws.length c eb off i W (by omega))
            go_wp2_with fail
            rw [← HV.out]
            refine (HTH.out _).mono ?_
            rintro e w1 ⟨rfl, rfl⟩
            have hbn := (Below.refl V.heap.size V).alloc (Nat.le_refl _) (.cells #[.slice A kept.length c, .slice (some ⟨b, off', none⟩) ws.length eb, .bool off] 25)
            have n1 : (V.alloc (.cells #[.slice A kept.length c, .slice (some ⟨b, off', none⟩) ws.length eb, .bool off] 25)).cell? ⟨wr.heap.size, 1, none⟩ = some (.string ⟨s.toArray⟩) := (HTN.out.below hbn).cell 1
            have HBN := Lib.hid (below_trans HBV.out hbn HBV.out.size)
            clear hbn d0 d1 d2 dl
            generalize V.alloc (.cells #[.slice A kept.length c, .slice (some ⟨b, off', none⟩) ws.length eb, .bool off] 25) = V2 at *
            cases ht : thereB kept.length i with
            | false =>
              have hf : decide (Right ⟨kept, ws, off⟩) = false := by
                rw [decide_eq_false_iff_not]
                intro hr
                have := (thereB_iff _ _).2 (hr.2.2 _ hmem).1
                rw [ht] at this
                cases this
              have HF := Lib.hid hf
              clear hf ht
              go_wp2_with fail
              go_ret
              exact ⟨by rw [HF.out]; rfl, below_trans BW.out HBN.out BW.out.size⟩
            | true =>
              have HT := Lib.hid ht
              clear ht
              by_cases h64 : s.length = 64
              · have HGE := Lib.hid h64
                have hxe : (((s.length : Nat) : Int) != 64) = false := by rw [h64]; rfl
                go_wp2_with fail
                go_roundw
                case rel => exact ⟨k + 1, by omega, by go_num, fun j hj p hp => by
                  by_cases hjk : j < k
                  · exact HALL.out j hjk p hp
                  · obtain rfl : j = k := by omega
                    have e := HG.out.symm.trans hp
                    simp only [Option.some.injEq] at e
                    rw [← e]
                    exact ⟨(thereB_iff _ _).1 HT.out, HGE.out⟩, HBN.out⟩
                case measure => simp [intOf]; omega
              · have hxe : (((s.length : Nat) : Int) != 64) = true := by rw [bne_iff_ne]; omega
                have hf : decide (Right ⟨kept, ws, off⟩) = false := by
                  rw [decide_eq_false_iff_not]
                  intro hr
                  exact h64 (hr.2.2 _ hmem).2
                have HF := Lib.hid hf
                clear hf
                go_wp2_with fail
                go_ret
                exact ⟨by rw [HF.out]; rfl, below_trans BW.out HBN.out BW.out.size⟩
          · obtain rfl : k = ws.length := by omega
            have ht : decide (Right ⟨kept, ws, off⟩) = true := by
              rw [decide_eq_true_eq]
              refine ⟨HIN.out, H64.out, fun p hp => ?_⟩
              obtain ⟨j, hj, rfl⟩ := List.getElem_of_mem hp
              exact HALL.out j hj _ (List.getElem?_eq_getElem hj)
            have HT := Lib.hid ht
            clear ht
            go_wp2_with fail
            go_ret
            exact ⟨by rw [HT.out]; rfl, below_trans BW.out HBW.out BW.out.size⟩
  · have hf : decide (Right ⟨kept, ws, off⟩) = false := by
      rw [decide_eq_false_iff_not]
      intro hr
      have h := hr.1
      simp only at h
      omega
    have HF := Lib.hid hf
    clear hf hk hp
    rcases hout with hout | hout
    · obtain h0 : kept.length = 0 := by omega
      rw [h0]
      go_enter Try.func14, Try.ntmps14
      go_wp2_with fail
      go_ret
      exact ⟨by rw [HF.out]; rfl, (Below.refl _ _).alloc (Nat.le_refl _) _⟩
    · go_enter Try.func14, Try.ntmps14
      go_wp2_with fail
      go_ret
      exact ⟨by rw [HF.out]; rfl, (Below.refl _ _).alloc (Nat.le_refl _) _⟩
end Go.Proofs.Ytahnkkmngbckdaa
