/- Proved: copyholdlaw15.WireCalls returns true for every two calls and every number, and leaves them as they were: calls one behind the other are taken one by one; a beginning of one isn't. No condition beyond the form's own reach. -/
import Derived.Test.YtpojhcpkmpbflaaWireLawK
import Derived.Test.YtpojhcpkmpbflaaLaw
import Derived.IntWalk
namespace Go.Proofs.Ytpojhcpkmpbflaa.wireCalls
open Go.ChangeShapes Go.WideShapes Go.ChangeAt Go.RowKit Copyhold
open Go.ChangeMaps (open_string shut_string)
set_option linter.unusedVariables false
set_option linter.unusedSimpArgs false

set_option maxRecDepth 100000 in
set_option maxHeartbeats 16000000 in
theorem walk (w : World) (ak1 : Int) (aw1 : (Lit.int .i64 ak1).wf = true) (ak2 : Int) (aw2 : (Lit.int .i64 ak2).wf = true) (ak3 : Int) (aw3 : (Lit.int .i64 ak3).wf = true) (ak4 : Int) (aw4 : (Lit.int .i64 ak4).wf = true) (ak5 : Int) (aw5 : (Lit.int .i64 ak5).wf = true) (at1 : List UInt8) (az1 : at1.length ≤ 140737488351232) (at2 : List UInt8) (az2 : at2.length ≤ 140737488351232) (at3 : List UInt8) (az3 : at3.length ≤ 140737488351232) (bk1 : Int) (bw1 : (Lit.int .i64 bk1).wf = true) (bk2 : Int) (bw2 : (Lit.int .i64 bk2).wf = true) (bk3 : Int) (bw3 : (Lit.int .i64 bk3).wf = true) (bk4 : Int) (bw4 : (Lit.int .i64 bk4).wf = true) (bk5 : Int) (bw5 : (Lit.int .i64 bk5).wf = true) (bt1 : List UInt8) (bz1 : bt1.length ≤ 140737488351232) (bt2 : List UInt8) (bz2 : bt2.length ≤ 140737488351232) (bt3 : List UInt8) (bz3 : bt3.length ≤ 140737488351232) (cut : Int) (wc : (Lit.int .i64 cut).wf = true) :
    Calls Try.prog 9 #[.agg #[.int .i64 ak1, .int .i64 ak2, .int .i64 ak3, .int .i64 ak4, .int .i64 ak5, .string ⟨at1.toArray⟩, .string ⟨at2.toArray⟩, .string ⟨at3.toArray⟩], .agg #[.int .i64 bk1, .int .i64 bk2, .int .i64 bk3, .int .i64 bk4, .int .i64 bk5, .string ⟨bt1.toArray⟩, .string ⟨bt2.toArray⟩, .string ⟨bt3.toArray⟩], .int .i64 cut] w fun e w' => e = .returned (.bool true) ∧ Below w.heap.size w w' := by
  have ha : I64 ak1 ∧ I64 ak2 ∧ I64 ak3 ∧ I64 ak4 ∧ I64 ak5 := ⟨i64_of aw1, i64_of aw2, i64_of aw3, i64_of aw4, i64_of aw5⟩
  have hb : I64 bk1 ∧ I64 bk2 ∧ I64 bk3 ∧ I64 bk4 ∧ I64 bk5 := ⟨i64_of bw1, i64_of bw2, i64_of bw3, i64_of bw4, i64_of bw5⟩
  obtain ⟨oc1, oc2⟩ := i64_of wc
  obtain ⟨W0, hW0⟩ : ∃ W0, W0 = (w.alloc (.cells #[.int .i64 ak1, .int .i64 ak2, .int .i64 ak3, .int .i64 ak4, .int .i64 ak5, .string ⟨at1.toArray⟩, .string ⟨at2.toArray⟩, .string ⟨at3.toArray⟩] 23)).alloc (.cells #[.int .i64 bk1, .int .i64 bk2, .int .i64 bk3, .int .i64 bk4, .int .i64 bk5, .string ⟨bt1.toArray⟩, .string ⟨bt2.toArray⟩, .string ⟨bt3.toArray⟩] 23) := ⟨_, rfl⟩
  have hb0 : Below w.heap.size w W0 := by rw [hW0]; exact ((Below.refl _ _).alloc (Nat.le_refl _) _).alloc (by simp) _
  have ta0 : TBox W0 w.heap.size 23 #[.int .i64 ak1, .int .i64 ak2, .int .i64 ak3, .int .i64 ak4, .int .i64 ak5, .string ⟨at1.toArray⟩, .string ⟨at2.toArray⟩, .string ⟨at3.toArray⟩] := by rw [hW0]; exact (TBox.new _ _ _).below ((Below.refl _ _).alloc (Nat.le_refl _) _)
  have tb0 : TBox W0 (w.heap.size + 1) 23 #[.int .i64 bk1, .int .i64 bk2, .int .i64 bk3, .int .i64 bk4, .int .i64 bk5, .string ⟨bt1.toArray⟩, .string ⟨bt2.toArray⟩, .string ⟨bt3.toArray⟩] := by
    rw [hW0]
    have h := TBox.new (w.alloc (.cells #[.int .i64 ak1, .int .i64 ak2, .int .i64 ak3, .int .i64 ak4, .int .i64 ak5, .string ⟨at1.toArray⟩, .string ⟨at2.toArray⟩, .string ⟨at3.toArray⟩] 23)) 23 #[.int .i64 bk1, .int .i64 bk2, .int .i64 bk3, .int .i64 bk4, .int .i64 bk5, .string ⟨bt1.toArray⟩, .string ⟨bt2.toArray⟩, .string ⟨bt3.toArray⟩]
    rw [show (w.alloc (.cells #[.int .i64 ak1, .int .i64 ak2, .int .i64 ak3, .int .i64 ak4, .int .i64 ak5, .string ⟨at1.toArray⟩, .string ⟨at2.toArray⟩, .string ⟨at3.toArray⟩] 23)).heap.size = w.heap.size + 1 from by simp] at h
    exact h
  have HA0 := Lib.hid ta0
  have HB0 := Lib.hid tb0
  have BW0 := Lib.hid hb0
  have HW := Lib.hid hW0
  have HSA := Lib.hid (fun W => law_short ⟨ak1, ak2, ak3, ak4, ak5, at1, at2, at3⟩ W (by simp only; omega) (by simp only; omega) (by simp only; omega))
  have HSB := Lib.hid (fun W => law_short ⟨bk1, bk2, bk3, bk4, bk5, bt1, bt2, bt3⟩ W (by simp only; omega) (by simp only; omega) (by simp only; omega))
  have hoka := fun h => short_ok (c := ⟨ak1, ak2, ak3, ak4, ak5, at1, at2, at3⟩) h ha
  have hokb := fun h => short_ok (c := ⟨bk1, bk2, bk3, bk4, bk5, bt1, bt2, bt3⟩) h hb
  unfold callV at HSA HSB
  simp only at HSA HSB
  clear hW0 hb0 ta0 tb0 aw1 aw2 aw3 aw4 aw5 bw1 bw2 bw3 bw4 bw5 wc
  cases hsa : shortC ⟨ak1, ak2, ak3, ak4, ak5, at1, at2, at3⟩ with
  | false =>
    have HA := Lib.hid hsa
    clear hoka hokb hsa
    go_enter Try.func9, Try.ntmps9
    go_wp2_with fail
    rw [← HW.out]
    refine (law_shown _).mono ?_
    rintro e w1 ⟨rfl, hb⟩
    have HA1 := Lib.hid (HA0.out.below hb)
    have HB1 := Lib.hid (HB0.out.below hb)
    have BW1 := Lib.hid (below_trans BW0.out hb BW0.out.size)
    clear hb 
    have e0 : w1.cell? ⟨w.heap.size, 0, none⟩ = some (.int .i64 ak1) := HA1.out.cell 0
    have e1 : w1.cell? ⟨w.heap.size, 1, none⟩ = some (.int .i64 ak2) := HA1.out.cell 1
    have e2 : w1.cell? ⟨w.heap.size, 2, none⟩ = some (.int .i64 ak3) := HA1.out.cell 2
    have e3 : w1.cell? ⟨w.heap.size, 3, none⟩ = some (.int .i64 ak4) := HA1.out.cell 3
    have e4 : w1.cell? ⟨w.heap.size, 4, none⟩ = some (.int .i64 ak5) := HA1.out.cell 4
    have e5 : w1.cell? ⟨w.heap.size, 5, none⟩ = some (.string ⟨at1.toArray⟩) := HA1.out.cell 5
    have e6 : w1.cell? ⟨w.heap.size, 6, none⟩ = some (.string ⟨at2.toArray⟩) := HA1.out.cell 6
    have e7 : w1.cell? ⟨w.heap.size, 7, none⟩ = some (.string ⟨at3.toArray⟩) := HA1.out.cell 7
    have f0 : w1.cell? ⟨w.heap.size + 1, 0, none⟩ = some (.int .i64 bk1) := HB1.out.cell 0
    have f1 : w1.cell? ⟨w.heap.size + 1, 1, none⟩ = some (.int .i64 bk2) := HB1.out.cell 1
    have f2 : w1.cell? ⟨w.heap.size + 1, 2, none⟩ = some (.int .i64 bk3) := HB1.out.cell 2
    have f3 : w1.cell? ⟨w.heap.size + 1, 3, none⟩ = some (.int .i64 bk4) := HB1.out.cell 3
    have f4 : w1.cell? ⟨w.heap.size + 1, 4, none⟩ = some (.int .i64 bk5) := HB1.out.cell 4
    have f5 : w1.cell? ⟨w.heap.size + 1, 5, none⟩ = some (.string ⟨bt1.toArray⟩) := HB1.out.cell 5
    have f6 : w1.cell? ⟨w.heap.size + 1, 6, none⟩ = some (.string ⟨bt2.toArray⟩) := HB1.out.cell 6
    have f7 : w1.cell? ⟨w.heap.size + 1, 7, none⟩ = some (.string ⟨bt3.toArray⟩) := HB1.out.cell 7
    go_wp2_with fail
    refine (HSA.out _).mono ?_
    rintro e w2 ⟨rfl, hb⟩
    have HA2 := Lib.hid (HA1.out.below hb)
    have HB2 := Lib.hid (HB1.out.below hb)
    have BW2 := Lib.hid (below_trans BW1.out hb BW1.out.size)
    rw [HA.out]
    clear hb e0 f0 e1 f1 e2 f2 e3 f3 e4 f4 e5 f5 e6 f6 e7 f7
    go_wp2_with fail
    go_ret
    exact ⟨rfl, BW2.out⟩
  | true =>
    cases hsb : shortC ⟨bk1, bk2, bk3, bk4, bk5, bt1, bt2, bt3⟩ with
    | false =>
      have HA := Lib.hid hsa
      have HB := Lib.hid hsb
      clear hoka hokb hsa hsb
      go_enter Try.func9, Try.ntmps9
      go_wp2_with fail
      rw [← HW.out]
      refine (law_shown _).mono ?_
      rintro e w1 ⟨rfl, hb⟩
      have HA1 := Lib.hid (HA0.out.below hb)
      have HB1 := Lib.hid (HB0.out.below hb)
      have BW1 := Lib.hid (below_trans BW0.out hb BW0.out.size)
      clear hb 
      have e0 : w1.cell? ⟨w.heap.size, 0, none⟩ = some (.int .i64 ak1) := HA1.out.cell 0
      have e1 : w1.cell? ⟨w.heap.size, 1, none⟩ = some (.int .i64 ak2) := HA1.out.cell 1
      have e2 : w1.cell? ⟨w.heap.size, 2, none⟩ = some (.int .i64 ak3) := HA1.out.cell 2
      have e3 : w1.cell? ⟨w.heap.size, 3, none⟩ = some (.int .i64 ak4) := HA1.out.cell 3
      have e4 : w1.cell? ⟨w.heap.size, 4, none⟩ = some (.int .i64 ak5) := HA1.out.cell 4
      have e5 : w1.cell? ⟨w.heap.size, 5, none⟩ = some (.string ⟨at1.toArray⟩) := HA1.out.cell 5
      have e6 : w1.cell? ⟨w.heap.size, 6, none⟩ = some (.string ⟨at2.toArray⟩) := HA1.out.cell 6
      have e7 : w1.cell? ⟨w.heap.size, 7, none⟩ = some (.string ⟨at3.toArray⟩) := HA1.out.cell 7
      have f0 : w1.cell? ⟨w.heap.size + 1, 0, none⟩ = some (.int .i64 bk1) := HB1.out.cell 0
      have f1 : w1.cell? ⟨w.heap.size + 1, 1, none⟩ = some (.int .i64 bk2) := HB1.out.cell 1
      have f2 : w1.cell? ⟨w.heap.size + 1, 2, none⟩ = some (.int .i64 bk3) := HB1.out.cell 2
      have f3 : w1.cell? ⟨w.heap.size + 1, 3, none⟩ = some (.int .i64 bk4) := HB1.out.cell 3
      have f4 : w1.cell? ⟨w.heap.size + 1, 4, none⟩ = some (.int .i64 bk5) := HB1.out.cell 4
      have f5 : w1.cell? ⟨w.heap.size + 1, 5, none⟩ = some (.string ⟨bt1.toArray⟩) := HB1.out.cell 5
      have f6 : w1.cell? ⟨w.heap.size + 1, 6, none⟩ = some (.string ⟨bt2.toArray⟩) := HB1.out.cell 6
      have f7 : w1.cell? ⟨w.heap.size + 1, 7, none⟩ = some (.string ⟨bt3.toArray⟩) := HB1.out.cell 7
      go_wp2_with fail
      refine (HSA.out _).mono ?_
      rintro e w2 ⟨rfl, hb⟩
      have HA2 := Lib.hid (HA1.out.below hb)
      have HB2 := Lib.hid (HB1.out.below hb)
      have BW2 := Lib.hid (below_trans BW1.out hb BW1.out.size)
      rw [HA.out]
      clear hb e0 f0 e1 f1 e2 f2 e3 f3 e4 f4 e5 f5 e6 f6 e7 f7
      have e0 : w2.cell? ⟨w.heap.size, 0, none⟩ = some (.int .i64 ak1) := HA2.out.cell 0
      have e1 : w2.cell? ⟨w.heap.size, 1, none⟩ = some (.int .i64 ak2) := HA2.out.cell 1
      have e2 : w2.cell? ⟨w.heap.size, 2, none⟩ = some (.int .i64 ak3) := HA2.out.cell 2
      have e3 : w2.cell? ⟨w.heap.size, 3, none⟩ = some (.int .i64 ak4) := HA2.out.cell 3
      have e4 : w2.cell? ⟨w.heap.size, 4, none⟩ = some (.int .i64 ak5) := HA2.out.cell 4
      have e5 : w2.cell? ⟨w.heap.size, 5, none⟩ = some (.string ⟨at1.toArray⟩) := HA2.out.cell 5
      have e6 : w2.cell? ⟨w.heap.size, 6, none⟩ = some (.string ⟨at2.toArray⟩) := HA2.out.cell 6
      have e7 : w2.cell? ⟨w.heap.size, 7, none⟩ = some (.string ⟨at3.toArray⟩) := HA2.out.cell 7
      have f0 : w2.cell? ⟨w.heap.size + 1, 0, none⟩ = some (.int .i64 bk1) := HB2.out.cell 0
      have f1 : w2.cell? ⟨w.heap.size + 1, 1, none⟩ = some (.int .i64 bk2) := HB2.out.cell 1
      have f2 : w2.cell? ⟨w.heap.size + 1, 2, none⟩ = some (.int .i64 bk3) := HB2.out.cell 2
      have f3 : w2.cell? ⟨w.heap.size + 1, 3, none⟩ = some (.int .i64 bk4) := HB2.out.cell 3
      have f4 : w2.cell? ⟨w.heap.size + 1, 4, none⟩ = some (.int .i64 bk5) := HB2.out.cell 4
      have f5 : w2.cell? ⟨w.heap.size + 1, 5, none⟩ = some (.string ⟨bt1.toArray⟩) := HB2.out.cell 5
      have f6 : w2.cell? ⟨w.heap.size + 1, 6, none⟩ = some (.string ⟨bt2.toArray⟩) := HB2.out.cell 6
      have f7 : w2.cell? ⟨w.heap.size + 1, 7, none⟩ = some (.string ⟨bt3.toArray⟩) := HB2.out.cell 7
      go_wp2_with fail
      refine (HSB.out _).mono ?_
      rintro e w3 ⟨rfl, hb⟩
      have HA3 := Lib.hid (HA2.out.below hb)
      have HB3 := Lib.hid (HB2.out.below hb)
      have BW3 := Lib.hid (below_trans BW2.out hb BW2.out.size)
      rw [HB.out]
      clear hb e0 f0 e1 f1 e2 f2 e3 f3 e4 f4 e5 f5 e6 f6 e7 f7
      go_wp2_with fail
      go_ret
      exact ⟨rfl, BW3.out⟩
    | true =>
      have HA := Lib.hid hsa
      have HB := Lib.hid hsb
      have oa := hoka hsa
      have ob := hokb hsb
      have ha9 := oa.mono (n := 4096) (by decide)
      have hb9 := ob.mono (n := 4096) (by decide)
      have hla := callB_len _ _ oa (by decide)
      have hlb := callB_len _ _ ob (by decide)
      have hp := takeCall_parses _ ha9
      have h1 := hp.1 (callB ⟨bk1, bk2, bk3, bk4, bk5, bt1, bt2, bt3⟩)
      have h2 := (takeCall_parses _ hb9).1 []
      rw [List.append_nil] at h2
      have HCUT := Lib.hid hp.2
      have HCA := Lib.hid (fun W => wire_Call ⟨ak1, ak2, ak3, ak4, ak5, at1, at2, at3⟩ W (oa.mono (by decide)))
      have HCB := Lib.hid (fun W => wire_Call ⟨bk1, bk2, bk3, bk4, bk5, bt1, bt2, bt3⟩ W (ob.mono (by decide)))
      obtain ⟨A, hA⟩ : ∃ A, A = callB ⟨ak1, ak2, ak3, ak4, ak5, at1, at2, at3⟩ := ⟨_, rfl⟩
      obtain ⟨B, hB⟩ : ∃ B, B = callB ⟨bk1, bk2, bk3, bk4, bk5, bt1, bt2, bt3⟩ := ⟨_, rfl⟩
      rw [← hA] at h1 hla HCUT HCA
      rw [← hB] at h1 h2 hlb HCB
      have HT1 := Lib.hid (fun W => wire_TakeCall (A ++ B) W (by rw [List.length_append]; omega))
      have HT2 := Lib.hid (fun W => wire_TakeCall B W (by omega))
      rw [h1] at HT1
      rw [h2] at HT2
      unfold callV at HCA HCB HT1 HT2
      simp only at HCA HCB HT1 HT2
      have HTC := Lib.hid (fun W (k : Nat) => wire_TakeCall (A.take k) W (by rw [List.length_take]; omega))
      clear hoka hokb hsa hsb oa ob ha9 hb9 hp h1 h2 hA hB ha hb
      by_cases hc : 0 ≤ cut ∧ cut < (A.length : Int)
      · obtain ⟨hc0, hc1⟩ := hc
        obtain ⟨k, rfl⟩ := Int.eq_ofNat_of_zero_le hc0
        try simp only [Int.ofNat_eq_natCast] at hc0 hc1 oc1 oc2 ⊢
        have hk : k < A.length := by omega
        have HT3 := fun W => HTC.out W k
        have htk := HCUT.out k hk
        have hpc : (⟨A.toArray⟩ : ByteArray).extract 0 k = ⟨(A.take k).toArray⟩ := piece A 0 k
        obtain ⟨⟨x, s, er⟩, hx⟩ : ∃ x, x = takeCall (A.take k) := ⟨_, rfl⟩
        rw [← hx] at htk
        simp only [← hx] at HT3
        simp only [Prod.mk.injEq] at htk
        obtain ⟨rfl, rfl⟩ := htk
        obtain ⟨x1, x2, x3, x4, x5, y1, y2, y3⟩ := x
        unfold callV at HT3
        dsimp only at HT3
        have HT3h := Lib.hid HT3
        clear HT3
        have hkd : decide ((A.length : Int) ≤ (k : Int)) = false := by rw [decide_eq_false_iff_not]; omega
        have hkd2 : decide ((k : Int) < 0) = false := by rw [decide_eq_false_iff_not]; omega
        clear hx HTC HCUT
        go_enter Try.func9, Try.ntmps9
        go_wp2_with fail
        rw [← HW.out]
        refine (law_shown _).mono ?_
        rintro e w1 ⟨rfl, hb⟩
        have HA1 := Lib.hid (HA0.out.below hb)
        have HB1 := Lib.hid (HB0.out.below hb)
        have BW1 := Lib.hid (below_trans BW0.out hb BW0.out.size)
        clear hb 
        have e0 : w1.cell? ⟨w.heap.size, 0, none⟩ = some (.int .i64 ak1) := HA1.out.cell 0
        have e1 : w1.cell? ⟨w.heap.size, 1, none⟩ = some (.int .i64 ak2) := HA1.out.cell 1
        have e2 : w1.cell? ⟨w.heap.size, 2, none⟩ = some (.int .i64 ak3) := HA1.out.cell 2
        have e3 : w1.cell? ⟨w.heap.size, 3, none⟩ = some (.int .i64 ak4) := HA1.out.cell 3
        have e4 : w1.cell? ⟨w.heap.size, 4, none⟩ = some (.int .i64 ak5) := HA1.out.cell 4
        have e5 : w1.cell? ⟨w.heap.size, 5, none⟩ = some (.string ⟨at1.toArray⟩) := HA1.out.cell 5
        have e6 : w1.cell? ⟨w.heap.size, 6, none⟩ = some (.string ⟨at2.toArray⟩) := HA1.out.cell 6
        have e7 : w1.cell? ⟨w.heap.size, 7, none⟩ = some (.string ⟨at3.toArray⟩) := HA1.out.cell 7
        have f0 : w1.cell? ⟨w.heap.size + 1, 0, none⟩ = some (.int .i64 bk1) := HB1.out.cell 0
        have f1 : w1.cell? ⟨w.heap.size + 1, 1, none⟩ = some (.int .i64 bk2) := HB1.out.cell 1
        have f2 : w1.cell? ⟨w.heap.size + 1, 2, none⟩ = some (.int .i64 bk3) := HB1.out.cell 2
        have f3 : w1.cell? ⟨w.heap.size + 1, 3, none⟩ = some (.int .i64 bk4) := HB1.out.cell 3
        have f4 : w1.cell? ⟨w.heap.size + 1, 4, none⟩ = some (.int .i64 bk5) := HB1.out.cell 4
        have f5 : w1.cell? ⟨w.heap.size + 1, 5, none⟩ = some (.string ⟨bt1.toArray⟩) := HB1.out.cell 5
        have f6 : w1.cell? ⟨w.heap.size + 1, 6, none⟩ = some (.string ⟨bt2.toArray⟩) := HB1.out.cell 6
        have f7 : w1.cell? ⟨w.heap.size + 1, 7, none⟩ = some (.string ⟨bt3.toArray⟩) := HB1.out.cell 7
        go_wp2_with fail
        refine (HSA.out _).mono ?_
        rintro e w2 ⟨rfl, hb⟩
        have HA2 := Lib.hid (HA1.out.below hb)
        have HB2 := Lib.hid (HB1.out.below hb)
        have BW2 := Lib.hid (below_trans BW1.out hb BW1.out.size)
        rw [HA.out]
        clear hb e0 f0 e1 f1 e2 f2 e3 f3 e4 f4 e5 f5 e6 f6 e7 f7
        have e0 : w2.cell? ⟨w.heap.size, 0, none⟩ = some (.int .i64 ak1) := HA2.out.cell 0
        have e1 : w2.cell? ⟨w.heap.size, 1, none⟩ = some (.int .i64 ak2) := HA2.out.cell 1
        have e2 : w2.cell? ⟨w.heap.size, 2, none⟩ = some (.int .i64 ak3) := HA2.out.cell 2
        have e3 : w2.cell? ⟨w.heap.size, 3, none⟩ = some (.int .i64 ak4) := HA2.out.cell 3
        have e4 : w2.cell? ⟨w.heap.size, 4, none⟩ = some (.int .i64 ak5) := HA2.out.cell 4
        have e5 : w2.cell? ⟨w.heap.size, 5, none⟩ = some (.string ⟨at1.toArray⟩) := HA2.out.cell 5
        have e6 : w2.cell? ⟨w.heap.size, 6, none⟩ = some (.string ⟨at2.toArray⟩) := HA2.out.cell 6
        have e7 : w2.cell? ⟨w.heap.size, 7, none⟩ = some (.string ⟨at3.toArray⟩) := HA2.out.cell 7
        have f0 : w2.cell? ⟨w.heap.size + 1, 0, none⟩ = some (.int .i64 bk1) := HB2.out.cell 0
        have f1 : w2.cell? ⟨w.heap.size + 1, 1, none⟩ = some (.int .i64 bk2) := HB2.out.cell 1
        have f2 : w2.cell? ⟨w.heap.size + 1, 2, none⟩ = some (.int .i64 bk3) := HB2.out.cell 2
        have f3 : w2.cell? ⟨w.heap.size + 1, 3, none⟩ = some (.int .i64 bk4) := HB2.out.cell 3
        have f4 : w2.cell? ⟨w.heap.size + 1, 4, none⟩ = some (.int .i64 bk5) := HB2.out.cell 4
        have f5 : w2.cell? ⟨w.heap.size + 1, 5, none⟩ = some (.string ⟨bt1.toArray⟩) := HB2.out.cell 5
        have f6 : w2.cell? ⟨w.heap.size + 1, 6, none⟩ = some (.string ⟨bt2.toArray⟩) := HB2.out.cell 6
        have f7 : w2.cell? ⟨w.heap.size + 1, 7, none⟩ = some (.string ⟨bt3.toArray⟩) := HB2.out.cell 7
        go_wp2_with fail
        refine (HSB.out _).mono ?_
        rintro e w3 ⟨rfl, hb⟩
        have HA3 := Lib.hid (HA2.out.below hb)
        have HB3 := Lib.hid (HB2.out.below hb)
        have BW3 := Lib.hid (below_trans BW2.out hb BW2.out.size)
        rw [HB.out]
        clear hb e0 f0 e1 f1 e2 f2 e3 f3 e4 f4 e5 f5 e6 f6 e7 f7
        have e0 : w3.cell? ⟨w.heap.size, 0, none⟩ = some (.int .i64 ak1) := HA3.out.cell 0
        have e1 : w3.cell? ⟨w.heap.size, 1, none⟩ = some (.int .i64 ak2) := HA3.out.cell 1
        have e2 : w3.cell? ⟨w.heap.size, 2, none⟩ = some (.int .i64 ak3) := HA3.out.cell 2
        have e3 : w3.cell? ⟨w.heap.size, 3, none⟩ = some (.int .i64 ak4) := HA3.out.cell 3
        have e4 : w3.cell? ⟨w.heap.size, 4, none⟩ = some (.int .i64 ak5) := HA3.out.cell 4
        have e5 : w3.cell? ⟨w.heap.size, 5, none⟩ = some (.string ⟨at1.toArray⟩) := HA3.out.cell 5
        have e6 : w3.cell? ⟨w.heap.size, 6, none⟩ = some (.string ⟨at2.toArray⟩) := HA3.out.cell 6
        have e7 : w3.cell? ⟨w.heap.size, 7, none⟩ = some (.string ⟨at3.toArray⟩) := HA3.out.cell 7
        have f0 : w3.cell? ⟨w.heap.size + 1, 0, none⟩ = some (.int .i64 bk1) := HB3.out.cell 0
        have f1 : w3.cell? ⟨w.heap.size + 1, 1, none⟩ = some (.int .i64 bk2) := HB3.out.cell 1
        have f2 : w3.cell? ⟨w.heap.size + 1, 2, none⟩ = some (.int .i64 bk3) := HB3.out.cell 2
        have f3 : w3.cell? ⟨w.heap.size + 1, 3, none⟩ = some (.int .i64 bk4) := HB3.out.cell 3
        have f4 : w3.cell? ⟨w.heap.size + 1, 4, none⟩ = some (.int .i64 bk5) := HB3.out.cell 4
        have f5 : w3.cell? ⟨w.heap.size + 1, 5, none⟩ = some (.string ⟨bt1.toArray⟩) := HB3.out.cell 5
        have f6 : w3.cell? ⟨w.heap.size + 1, 6, none⟩ = some (.string ⟨bt2.toArray⟩) := HB3.out.cell 6
        have f7 : w3.cell? ⟨w.heap.size + 1, 7, none⟩ = some (.string ⟨bt3.toArray⟩) := HB3.out.cell 7
        go_wp2_with fail
        refine (HCA.out _).mono ?_
        rintro e w4 ⟨rfl, hb⟩
        have HA4 := Lib.hid (HA3.out.below hb)
        have HB4 := Lib.hid (HB3.out.below hb)
        have BW4 := Lib.hid (below_trans BW3.out hb BW3.out.size)
        clear hb e0 f0 e1 f1 e2 f2 e3 f3 e4 f4 e5 f5 e6 f6 e7 f7
        have e0 : w4.cell? ⟨w.heap.size, 0, none⟩ = some (.int .i64 ak1) := HA4.out.cell 0
        have e1 : w4.cell? ⟨w.heap.size, 1, none⟩ = some (.int .i64 ak2) := HA4.out.cell 1
        have e2 : w4.cell? ⟨w.heap.size, 2, none⟩ = some (.int .i64 ak3) := HA4.out.cell 2
        have e3 : w4.cell? ⟨w.heap.size, 3, none⟩ = some (.int .i64 ak4) := HA4.out.cell 3
        have e4 : w4.cell? ⟨w.heap.size, 4, none⟩ = some (.int .i64 ak5) := HA4.out.cell 4
        have e5 : w4.cell? ⟨w.heap.size, 5, none⟩ = some (.string ⟨at1.toArray⟩) := HA4.out.cell 5
        have e6 : w4.cell? ⟨w.heap.size, 6, none⟩ = some (.string ⟨at2.toArray⟩) := HA4.out.cell 6
        have e7 : w4.cell? ⟨w.heap.size, 7, none⟩ = some (.string ⟨at3.toArray⟩) := HA4.out.cell 7
        have f0 : w4.cell? ⟨w.heap.size + 1, 0, none⟩ = some (.int .i64 bk1) := HB4.out.cell 0
        have f1 : w4.cell? ⟨w.heap.size + 1, 1, none⟩ = some (.int .i64 bk2) := HB4.out.cell 1
        have f2 : w4.cell? ⟨w.heap.size + 1, 2, none⟩ = some (.int .i64 bk3) := HB4.out.cell 2
        have f3 : w4.cell? ⟨w.heap.size + 1, 3, none⟩ = some (.int .i64 bk4) := HB4.out.cell 3
        have f4 : w4.cell? ⟨w.heap.size + 1, 4, none⟩ = some (.int .i64 bk5) := HB4.out.cell 4
        have f5 : w4.cell? ⟨w.heap.size + 1, 5, none⟩ = some (.string ⟨bt1.toArray⟩) := HB4.out.cell 5
        have f6 : w4.cell? ⟨w.heap.size + 1, 6, none⟩ = some (.string ⟨bt2.toArray⟩) := HB4.out.cell 6
        have f7 : w4.cell? ⟨w.heap.size + 1, 7, none⟩ = some (.string ⟨bt3.toArray⟩) := HB4.out.cell 7
        go_wp2_with fail
        refine (HCB.out _).mono ?_
        rintro e w5 ⟨rfl, hb⟩
        have HA5 := Lib.hid (HA4.out.below hb)
        have HB5 := Lib.hid (HB4.out.below hb)
        have BW5 := Lib.hid (below_trans BW4.out hb BW4.out.size)
        clear hb e0 f0 e1 f1 e2 f2 e3 f3 e4 f4 e5 f5 e6 f6 e7 f7
        go_wp2_with fail
        refine (HT1.out _).mono ?_
        rintro e w6 ⟨rfl, hb⟩
        have HA6 := Lib.hid (HA5.out.below hb)
        have HB6 := Lib.hid (HB5.out.below hb)
        have BW6 := Lib.hid (below_trans BW5.out hb BW5.out.size)
        clear hb 
        obtain ⟨V6, hW⟩ : ∃ W, W = w6.alloc (.cells #[.int .i64 ak1, .int .i64 ak2, .int .i64 ak3, .int .i64 ak4, .int .i64 ak5, .string ⟨at1.toArray⟩, .string ⟨at2.toArray⟩, .string ⟨at3.toArray⟩] 23) := ⟨_, rfl⟩
        have hbn : Below w6.heap.size w6 V6 := by rw [hW]; exact (Below.refl _ _).alloc (Nat.le_refl _) _
        have HXa := Lib.hid (show TBox V6 w6.heap.size 23 #[.int .i64 ak1, .int .i64 ak2, .int .i64 ak3, .int .i64 ak4, .int .i64 ak5, .string ⟨at1.toArray⟩, .string ⟨at2.toArray⟩, .string ⟨at3.toArray⟩] from by rw [hW]; exact TBox.new _ _ _)
        have HWa := Lib.hid hW
        clear hW
        have HA6v := Lib.hid (HA6.out.below hbn)
        have HB6v := Lib.hid (HB6.out.below hbn)
        have BW6v := Lib.hid (below_trans BW6.out hbn BW6.out.size)
        clear hbn
        go_wp2_with fail
        rw [← HWa.out]
        refine (HT2.out V6).mono ?_
        rintro e w7 ⟨rfl, hb⟩
        have HA7 := Lib.hid (HA6v.out.below hb)
        have HB7 := Lib.hid (HB6v.out.below hb)
        have HX7 := Lib.hid (HXa.out.below hb)
        have BW7 := Lib.hid (below_trans BW6v.out hb BW6v.out.size)
        clear hb
        obtain ⟨V8, hW⟩ : ∃ W, W = w7.alloc (.cells #[.int .i64 bk1, .int .i64 bk2, .int .i64 bk3, .int .i64 bk4, .int .i64 bk5, .string ⟨bt1.toArray⟩, .string ⟨bt2.toArray⟩, .string ⟨bt3.toArray⟩] 23) := ⟨_, rfl⟩
        have hbn : Below w7.heap.size w7 V8 := by rw [hW]; exact (Below.refl _ _).alloc (Nat.le_refl _) _
        have HXb := Lib.hid (show TBox V8 w7.heap.size 23 #[.int .i64 bk1, .int .i64 bk2, .int .i64 bk3, .int .i64 bk4, .int .i64 bk5, .string ⟨bt1.toArray⟩, .string ⟨bt2.toArray⟩, .string ⟨bt3.toArray⟩] from by rw [hW]; exact TBox.new _ _ _)
        have HWb := Lib.hid hW
        clear hW
        have HA8 := Lib.hid (HA7.out.below hbn)
        have HB8 := Lib.hid (HB7.out.below hbn)
        have HX8 := Lib.hid (HX7.out.below hbn)
        have BW8 := Lib.hid (below_trans BW7.out hbn BW7.out.size)
        clear hbn
        have e0 : w7.cell? ⟨w.heap.size, 0, none⟩ = some (.int .i64 ak1) := HA7.out.cell 0
        have e1 : w7.cell? ⟨w.heap.size, 1, none⟩ = some (.int .i64 ak2) := HA7.out.cell 1
        have e2 : w7.cell? ⟨w.heap.size, 2, none⟩ = some (.int .i64 ak3) := HA7.out.cell 2
        have e3 : w7.cell? ⟨w.heap.size, 3, none⟩ = some (.int .i64 ak4) := HA7.out.cell 3
        have e4 : w7.cell? ⟨w.heap.size, 4, none⟩ = some (.int .i64 ak5) := HA7.out.cell 4
        have e5 : w7.cell? ⟨w.heap.size, 5, none⟩ = some (.string ⟨at1.toArray⟩) := HA7.out.cell 5
        have e6 : w7.cell? ⟨w.heap.size, 6, none⟩ = some (.string ⟨at2.toArray⟩) := HA7.out.cell 6
        have e7 : w7.cell? ⟨w.heap.size, 7, none⟩ = some (.string ⟨at3.toArray⟩) := HA7.out.cell 7
        have f0 : w7.cell? ⟨w.heap.size + 1, 0, none⟩ = some (.int .i64 bk1) := HB7.out.cell 0
        have f1 : w7.cell? ⟨w.heap.size + 1, 1, none⟩ = some (.int .i64 bk2) := HB7.out.cell 1
        have f2 : w7.cell? ⟨w.heap.size + 1, 2, none⟩ = some (.int .i64 bk3) := HB7.out.cell 2
        have f3 : w7.cell? ⟨w.heap.size + 1, 3, none⟩ = some (.int .i64 bk4) := HB7.out.cell 3
        have f4 : w7.cell? ⟨w.heap.size + 1, 4, none⟩ = some (.int .i64 bk5) := HB7.out.cell 4
        have f5 : w7.cell? ⟨w.heap.size + 1, 5, none⟩ = some (.string ⟨bt1.toArray⟩) := HB7.out.cell 5
        have f6 : w7.cell? ⟨w.heap.size + 1, 6, none⟩ = some (.string ⟨bt2.toArray⟩) := HB7.out.cell 6
        have f7 : w7.cell? ⟨w.heap.size + 1, 7, none⟩ = some (.string ⟨bt3.toArray⟩) := HB7.out.cell 7
        have g0 : w7.cell? ⟨w6.heap.size, 0, none⟩ = some (.int .i64 ak1) := HX7.out.cell 0
        have g1 : w7.cell? ⟨w6.heap.size, 1, none⟩ = some (.int .i64 ak2) := HX7.out.cell 1
        have g2 : w7.cell? ⟨w6.heap.size, 2, none⟩ = some (.int .i64 ak3) := HX7.out.cell 2
        have g3 : w7.cell? ⟨w6.heap.size, 3, none⟩ = some (.int .i64 ak4) := HX7.out.cell 3
        have g4 : w7.cell? ⟨w6.heap.size, 4, none⟩ = some (.int .i64 ak5) := HX7.out.cell 4
        have g5 : w7.cell? ⟨w6.heap.size, 5, none⟩ = some (.string ⟨at1.toArray⟩) := HX7.out.cell 5
        have g6 : w7.cell? ⟨w6.heap.size, 6, none⟩ = some (.string ⟨at2.toArray⟩) := HX7.out.cell 6
        have g7 : w7.cell? ⟨w6.heap.size, 7, none⟩ = some (.string ⟨at3.toArray⟩) := HX7.out.cell 7
        have lt1 := HA7.out.lt
        have lt2 := HB7.out.lt
        have lt3 := HX7.out.lt
        go_wp2_with fail
        rw [← HWb.out]
        refine (HT3h.out V8).mono ?_
        rintro e w9 ⟨rfl, hb⟩
        have BW9 := Lib.hid (below_trans BW8.out hb BW8.out.size)
        clear hb
        clear e0 f0 g0 e1 f1 g1 e2 f2 g2 e3 f3 g3 e4 f4 g4 e5 f5 g5 e6 f6 g6 e7 f7 g7
        go_wp2_with fail
        go_ret
        exact ⟨rfl, BW9.out.alloc BW9.out.size _⟩
      · rcases (show cut < 0 ∨ 0 ≤ cut ∧ (A.length : Int) ≤ cut from by omega) with h | ⟨h, h'⟩
        all_goals
          clear hc HTC HCUT
          go_enter Try.func9, Try.ntmps9
          go_wp2_with fail
          rw [← HW.out]
          refine (law_shown _).mono ?_
          rintro e w1 ⟨rfl, hb⟩
          have HA1 := Lib.hid (HA0.out.below hb)
          have HB1 := Lib.hid (HB0.out.below hb)
          have BW1 := Lib.hid (below_trans BW0.out hb BW0.out.size)
          clear hb 
          have e0 : w1.cell? ⟨w.heap.size, 0, none⟩ = some (.int .i64 ak1) := HA1.out.cell 0
          have e1 : w1.cell? ⟨w.heap.size, 1, none⟩ = some (.int .i64 ak2) := HA1.out.cell 1
          have e2 : w1.cell? ⟨w.heap.size, 2, none⟩ = some (.int .i64 ak3) := HA1.out.cell 2
          have e3 : w1.cell? ⟨w.heap.size, 3, none⟩ = some (.int .i64 ak4) := HA1.out.cell 3
          have e4 : w1.cell? ⟨w.heap.size, 4, none⟩ = some (.int .i64 ak5) := HA1.out.cell 4
          have e5 : w1.cell? ⟨w.heap.size, 5, none⟩ = some (.string ⟨at1.toArray⟩) := HA1.out.cell 5
          have e6 : w1.cell? ⟨w.heap.size, 6, none⟩ = some (.string ⟨at2.toArray⟩) := HA1.out.cell 6
          have e7 : w1.cell? ⟨w.heap.size, 7, none⟩ = some (.string ⟨at3.toArray⟩) := HA1.out.cell 7
          have f0 : w1.cell? ⟨w.heap.size + 1, 0, none⟩ = some (.int .i64 bk1) := HB1.out.cell 0
          have f1 : w1.cell? ⟨w.heap.size + 1, 1, none⟩ = some (.int .i64 bk2) := HB1.out.cell 1
          have f2 : w1.cell? ⟨w.heap.size + 1, 2, none⟩ = some (.int .i64 bk3) := HB1.out.cell 2
          have f3 : w1.cell? ⟨w.heap.size + 1, 3, none⟩ = some (.int .i64 bk4) := HB1.out.cell 3
          have f4 : w1.cell? ⟨w.heap.size + 1, 4, none⟩ = some (.int .i64 bk5) := HB1.out.cell 4
          have f5 : w1.cell? ⟨w.heap.size + 1, 5, none⟩ = some (.string ⟨bt1.toArray⟩) := HB1.out.cell 5
          have f6 : w1.cell? ⟨w.heap.size + 1, 6, none⟩ = some (.string ⟨bt2.toArray⟩) := HB1.out.cell 6
          have f7 : w1.cell? ⟨w.heap.size + 1, 7, none⟩ = some (.string ⟨bt3.toArray⟩) := HB1.out.cell 7
          go_wp2_with fail
          refine (HSA.out _).mono ?_
          rintro e w2 ⟨rfl, hb⟩
          have HA2 := Lib.hid (HA1.out.below hb)
          have HB2 := Lib.hid (HB1.out.below hb)
          have BW2 := Lib.hid (below_trans BW1.out hb BW1.out.size)
          rw [HA.out]
          clear hb e0 f0 e1 f1 e2 f2 e3 f3 e4 f4 e5 f5 e6 f6 e7 f7
          have e0 : w2.cell? ⟨w.heap.size, 0, none⟩ = some (.int .i64 ak1) := HA2.out.cell 0
          have e1 : w2.cell? ⟨w.heap.size, 1, none⟩ = some (.int .i64 ak2) := HA2.out.cell 1
          have e2 : w2.cell? ⟨w.heap.size, 2, none⟩ = some (.int .i64 ak3) := HA2.out.cell 2
          have e3 : w2.cell? ⟨w.heap.size, 3, none⟩ = some (.int .i64 ak4) := HA2.out.cell 3
          have e4 : w2.cell? ⟨w.heap.size, 4, none⟩ = some (.int .i64 ak5) := HA2.out.cell 4
          have e5 : w2.cell? ⟨w.heap.size, 5, none⟩ = some (.string ⟨at1.toArray⟩) := HA2.out.cell 5
          have e6 : w2.cell? ⟨w.heap.size, 6, none⟩ = some (.string ⟨at2.toArray⟩) := HA2.out.cell 6
          have e7 : w2.cell? ⟨w.heap.size, 7, none⟩ = some (.string ⟨at3.toArray⟩) := HA2.out.cell 7
          have f0 : w2.cell? ⟨w.heap.size + 1, 0, none⟩ = some (.int .i64 bk1) := HB2.out.cell 0
          have f1 : w2.cell? ⟨w.heap.size + 1, 1, none⟩ = some (.int .i64 bk2) := HB2.out.cell 1
          have f2 : w2.cell? ⟨w.heap.size + 1, 2, none⟩ = some (.int .i64 bk3) := HB2.out.cell 2
          have f3 : w2.cell? ⟨w.heap.size + 1, 3, none⟩ = some (.int .i64 bk4) := HB2.out.cell 3
          have f4 : w2.cell? ⟨w.heap.size + 1, 4, none⟩ = some (.int .i64 bk5) := HB2.out.cell 4
          have f5 : w2.cell? ⟨w.heap.size + 1, 5, none⟩ = some (.string ⟨bt1.toArray⟩) := HB2.out.cell 5
          have f6 : w2.cell? ⟨w.heap.size + 1, 6, none⟩ = some (.string ⟨bt2.toArray⟩) := HB2.out.cell 6
          have f7 : w2.cell? ⟨w.heap.size + 1, 7, none⟩ = some (.string ⟨bt3.toArray⟩) := HB2.out.cell 7
          go_wp2_with fail
          refine (HSB.out _).mono ?_
          rintro e w3 ⟨rfl, hb⟩
          have HA3 := Lib.hid (HA2.out.below hb)
          have HB3 := Lib.hid (HB2.out.below hb)
          have BW3 := Lib.hid (below_trans BW2.out hb BW2.out.size)
          rw [HB.out]
          clear hb e0 f0 e1 f1 e2 f2 e3 f3 e4 f4 e5 f5 e6 f6 e7 f7
          have e0 : w3.cell? ⟨w.heap.size, 0, none⟩ = some (.int .i64 ak1) := HA3.out.cell 0
          have e1 : w3.cell? ⟨w.heap.size, 1, none⟩ = some (.int .i64 ak2) := HA3.out.cell 1
          have e2 : w3.cell? ⟨w.heap.size, 2, none⟩ = some (.int .i64 ak3) := HA3.out.cell 2
          have e3 : w3.cell? ⟨w.heap.size, 3, none⟩ = some (.int .i64 ak4) := HA3.out.cell 3
          have e4 : w3.cell? ⟨w.heap.size, 4, none⟩ = some (.int .i64 ak5) := HA3.out.cell 4
          have e5 : w3.cell? ⟨w.heap.size, 5, none⟩ = some (.string ⟨at1.toArray⟩) := HA3.out.cell 5
          have e6 : w3.cell? ⟨w.heap.size, 6, none⟩ = some (.string ⟨at2.toArray⟩) := HA3.out.cell 6
          have e7 : w3.cell? ⟨w.heap.size, 7, none⟩ = some (.string ⟨at3.toArray⟩) := HA3.out.cell 7
          have f0 : w3.cell? ⟨w.heap.size + 1, 0, none⟩ = some (.int .i64 bk1) := HB3.out.cell 0
          have f1 : w3.cell? ⟨w.heap.size + 1, 1, none⟩ = some (.int .i64 bk2) := HB3.out.cell 1
          have f2 : w3.cell? ⟨w.heap.size + 1, 2, none⟩ = some (.int .i64 bk3) := HB3.out.cell 2
          have f3 : w3.cell? ⟨w.heap.size + 1, 3, none⟩ = some (.int .i64 bk4) := HB3.out.cell 3
          have f4 : w3.cell? ⟨w.heap.size + 1, 4, none⟩ = some (.int .i64 bk5) := HB3.out.cell 4
          have f5 : w3.cell? ⟨w.heap.size + 1, 5, none⟩ = some (.string ⟨bt1.toArray⟩) := HB3.out.cell 5
          have f6 : w3.cell? ⟨w.heap.size + 1, 6, none⟩ = some (.string ⟨bt2.toArray⟩) := HB3.out.cell 6
          have f7 : w3.cell? ⟨w.heap.size + 1, 7, none⟩ = some (.string ⟨bt3.toArray⟩) := HB3.out.cell 7
          go_wp2_with fail
          refine (HCA.out _).mono ?_
          rintro e w4 ⟨rfl, hb⟩
          have HA4 := Lib.hid (HA3.out.below hb)
          have HB4 := Lib.hid (HB3.out.below hb)
          have BW4 := Lib.hid (below_trans BW3.out hb BW3.out.size)
          clear hb e0 f0 e1 f1 e2 f2 e3 f3 e4 f4 e5 f5 e6 f6 e7 f7
          have e0 : w4.cell? ⟨w.heap.size, 0, none⟩ = some (.int .i64 ak1) := HA4.out.cell 0
          have e1 : w4.cell? ⟨w.heap.size, 1, none⟩ = some (.int .i64 ak2) := HA4.out.cell 1
          have e2 : w4.cell? ⟨w.heap.size, 2, none⟩ = some (.int .i64 ak3) := HA4.out.cell 2
          have e3 : w4.cell? ⟨w.heap.size, 3, none⟩ = some (.int .i64 ak4) := HA4.out.cell 3
          have e4 : w4.cell? ⟨w.heap.size, 4, none⟩ = some (.int .i64 ak5) := HA4.out.cell 4
          have e5 : w4.cell? ⟨w.heap.size, 5, none⟩ = some (.string ⟨at1.toArray⟩) := HA4.out.cell 5
          have e6 : w4.cell? ⟨w.heap.size, 6, none⟩ = some (.string ⟨at2.toArray⟩) := HA4.out.cell 6
          have e7 : w4.cell? ⟨w.heap.size, 7, none⟩ = some (.string ⟨at3.toArray⟩) := HA4.out.cell 7
          have f0 : w4.cell? ⟨w.heap.size + 1, 0, none⟩ = some (.int .i64 bk1) := HB4.out.cell 0
          have f1 : w4.cell? ⟨w.heap.size + 1, 1, none⟩ = some (.int .i64 bk2) := HB4.out.cell 1
          have f2 : w4.cell? ⟨w.heap.size + 1, 2, none⟩ = some (.int .i64 bk3) := HB4.out.cell 2
          have f3 : w4.cell? ⟨w.heap.size + 1, 3, none⟩ = some (.int .i64 bk4) := HB4.out.cell 3
          have f4 : w4.cell? ⟨w.heap.size + 1, 4, none⟩ = some (.int .i64 bk5) := HB4.out.cell 4
          have f5 : w4.cell? ⟨w.heap.size + 1, 5, none⟩ = some (.string ⟨bt1.toArray⟩) := HB4.out.cell 5
          have f6 : w4.cell? ⟨w.heap.size + 1, 6, none⟩ = some (.string ⟨bt2.toArray⟩) := HB4.out.cell 6
          have f7 : w4.cell? ⟨w.heap.size + 1, 7, none⟩ = some (.string ⟨bt3.toArray⟩) := HB4.out.cell 7
          go_wp2_with fail
          refine (HCB.out _).mono ?_
          rintro e w5 ⟨rfl, hb⟩
          have HA5 := Lib.hid (HA4.out.below hb)
          have HB5 := Lib.hid (HB4.out.below hb)
          have BW5 := Lib.hid (below_trans BW4.out hb BW4.out.size)
          clear hb e0 f0 e1 f1 e2 f2 e3 f3 e4 f4 e5 f5 e6 f6 e7 f7
          go_wp2_with fail
          refine (HT1.out _).mono ?_
          rintro e w6 ⟨rfl, hb⟩
          have HA6 := Lib.hid (HA5.out.below hb)
          have HB6 := Lib.hid (HB5.out.below hb)
          have BW6 := Lib.hid (below_trans BW5.out hb BW5.out.size)
          clear hb 
          obtain ⟨V6, hW⟩ : ∃ W, W = w6.alloc (.cells #[.int .i64 ak1, .int .i64 ak2, .int .i64 ak3, .int .i64 ak4, .int .i64 ak5, .string ⟨at1.toArray⟩, .string ⟨at2.toArray⟩, .string ⟨at3.toArray⟩] 23) := ⟨_, rfl⟩
          have hbn : Below w6.heap.size w6 V6 := by rw [hW]; exact (Below.refl _ _).alloc (Nat.le_refl _) _
          have HXa := Lib.hid (show TBox V6 w6.heap.size 23 #[.int .i64 ak1, .int .i64 ak2, .int .i64 ak3, .int .i64 ak4, .int .i64 ak5, .string ⟨at1.toArray⟩, .string ⟨at2.toArray⟩, .string ⟨at3.toArray⟩] from by rw [hW]; exact TBox.new _ _ _)
          have HWa := Lib.hid hW
          clear hW
          have HA6v := Lib.hid (HA6.out.below hbn)
          have HB6v := Lib.hid (HB6.out.below hbn)
          have BW6v := Lib.hid (below_trans BW6.out hbn BW6.out.size)
          clear hbn
          go_wp2_with fail
          rw [← HWa.out]
          refine (HT2.out V6).mono ?_
          rintro e w7 ⟨rfl, hb⟩
          have HA7 := Lib.hid (HA6v.out.below hb)
          have HB7 := Lib.hid (HB6v.out.below hb)
          have HX7 := Lib.hid (HXa.out.below hb)
          have BW7 := Lib.hid (below_trans BW6v.out hb BW6v.out.size)
          clear hb
          obtain ⟨V8, hW⟩ : ∃ W, W = w7.alloc (.cells #[.int .i64 bk1, .int .i64 bk2, .int .i64 bk3, .int .i64 bk4, .int .i64 bk5, .string ⟨bt1.toArray⟩, .string ⟨bt2.toArray⟩, .string ⟨bt3.toArray⟩] 23) := ⟨_, rfl⟩
          have hbn : Below w7.heap.size w7 V8 := by rw [hW]; exact (Below.refl _ _).alloc (Nat.le_refl _) _
          have HXb := Lib.hid (show TBox V8 w7.heap.size 23 #[.int .i64 bk1, .int .i64 bk2, .int .i64 bk3, .int .i64 bk4, .int .i64 bk5, .string ⟨bt1.toArray⟩, .string ⟨bt2.toArray⟩, .string ⟨bt3.toArray⟩] from by rw [hW]; exact TBox.new _ _ _)
          have HWb := Lib.hid hW
          clear hW
          have HA8 := Lib.hid (HA7.out.below hbn)
          have HB8 := Lib.hid (HB7.out.below hbn)
          have HX8 := Lib.hid (HX7.out.below hbn)
          have BW8 := Lib.hid (below_trans BW7.out hbn BW7.out.size)
          clear hbn
          have e0 : w7.cell? ⟨w.heap.size, 0, none⟩ = some (.int .i64 ak1) := HA7.out.cell 0
          have e1 : w7.cell? ⟨w.heap.size, 1, none⟩ = some (.int .i64 ak2) := HA7.out.cell 1
          have e2 : w7.cell? ⟨w.heap.size, 2, none⟩ = some (.int .i64 ak3) := HA7.out.cell 2
          have e3 : w7.cell? ⟨w.heap.size, 3, none⟩ = some (.int .i64 ak4) := HA7.out.cell 3
          have e4 : w7.cell? ⟨w.heap.size, 4, none⟩ = some (.int .i64 ak5) := HA7.out.cell 4
          have e5 : w7.cell? ⟨w.heap.size, 5, none⟩ = some (.string ⟨at1.toArray⟩) := HA7.out.cell 5
          have e6 : w7.cell? ⟨w.heap.size, 6, none⟩ = some (.string ⟨at2.toArray⟩) := HA7.out.cell 6
          have e7 : w7.cell? ⟨w.heap.size, 7, none⟩ = some (.string ⟨at3.toArray⟩) := HA7.out.cell 7
          have f0 : w7.cell? ⟨w.heap.size + 1, 0, none⟩ = some (.int .i64 bk1) := HB7.out.cell 0
          have f1 : w7.cell? ⟨w.heap.size + 1, 1, none⟩ = some (.int .i64 bk2) := HB7.out.cell 1
          have f2 : w7.cell? ⟨w.heap.size + 1, 2, none⟩ = some (.int .i64 bk3) := HB7.out.cell 2
          have f3 : w7.cell? ⟨w.heap.size + 1, 3, none⟩ = some (.int .i64 bk4) := HB7.out.cell 3
          have f4 : w7.cell? ⟨w.heap.size + 1, 4, none⟩ = some (.int .i64 bk5) := HB7.out.cell 4
          have f5 : w7.cell? ⟨w.heap.size + 1, 5, none⟩ = some (.string ⟨bt1.toArray⟩) := HB7.out.cell 5
          have f6 : w7.cell? ⟨w.heap.size + 1, 6, none⟩ = some (.string ⟨bt2.toArray⟩) := HB7.out.cell 6
          have f7 : w7.cell? ⟨w.heap.size + 1, 7, none⟩ = some (.string ⟨bt3.toArray⟩) := HB7.out.cell 7
          have g0 : w7.cell? ⟨w6.heap.size, 0, none⟩ = some (.int .i64 ak1) := HX7.out.cell 0
          have g1 : w7.cell? ⟨w6.heap.size, 1, none⟩ = some (.int .i64 ak2) := HX7.out.cell 1
          have g2 : w7.cell? ⟨w6.heap.size, 2, none⟩ = some (.int .i64 ak3) := HX7.out.cell 2
          have g3 : w7.cell? ⟨w6.heap.size, 3, none⟩ = some (.int .i64 ak4) := HX7.out.cell 3
          have g4 : w7.cell? ⟨w6.heap.size, 4, none⟩ = some (.int .i64 ak5) := HX7.out.cell 4
          have g5 : w7.cell? ⟨w6.heap.size, 5, none⟩ = some (.string ⟨at1.toArray⟩) := HX7.out.cell 5
          have g6 : w7.cell? ⟨w6.heap.size, 6, none⟩ = some (.string ⟨at2.toArray⟩) := HX7.out.cell 6
          have g7 : w7.cell? ⟨w6.heap.size, 7, none⟩ = some (.string ⟨at3.toArray⟩) := HX7.out.cell 7
          have lt1 := HA7.out.lt
          have lt2 := HB7.out.lt
          have lt3 := HX7.out.lt
          go_wp2_with fail
          go_ret
          exact ⟨rfl, BW7.out.alloc BW7.out.size _⟩
theorem own : ownKnob Try.prog.godebug = none := by kernel_rfl
theorem laidOut : laidOutB Try.prog = true := by kernel_rfl
theorem cellscopyhold_api_Call : Try.prog.cellsOf 23 = 8 := by kernel_rfl
theorem cellsint : Try.prog.cellsOf 3 = 1 := by kernel_rfl
theorem cellsstring : Try.prog.cellsOf 9 = 1 := by kernel_rfl

set_option maxRecDepth 100000 in
set_option maxHeartbeats 1000000 in
theorem lifted (os : Os) (started : os.Started) (H : Type) (enc : TypeId × Value → H) :
    ReturnsInHanded {} Try.checked os 9 .any (Rows.wireCallsSpec.pre6 enc Try.prog Try.f9 Rows.wireCallsRow.domain false) (Rows.wireCallsSpec.post enc Try.prog Try.f9 false true false false) := by
  refine returnsInHanded_of_change_sized (C := Try.checked) own started (by kernel_rfl) Try.func9
    (ChangeSpec.witness6 (enc := enc) (C := Try.checked) false ⟨#[], #[.agg #[.int .i64 0, .int .i64 0, .int .i64 0, .int .i64 0, .int .i64 0, .string ByteArray.empty, .string ByteArray.empty, .string ByteArray.empty], .agg #[.int .i64 0, .int .i64 0, .int .i64 0, .int .i64 0, .int .i64 0, .string ByteArray.empty, .string ByteArray.empty, .string ByteArray.empty], .int .i64 0], []⟩ 8 (by kernel_rfl) (by kernel_rfl) (by kernel_rfl) (by kernel_rfl)) ?_
  intro W base args ds gs before hval0 hW hcnd hsz0 _
  have hsz : (DataW.weightsEach Try.prog (Try.f9.params.toList ++ []) (ds ++ gs)).all (· ≤ reachBytes) = true := hsz0
  clear hsz0
  have hval : ∀ (j : Nat) t v, Try.f9.params[j]? = some t → args[j]? = some v → Value.okWide Try.prog W .any base t v := hval0
  have hW' := hW
  have hlt := hW.lt
  obtain ⟨p, q, hA0, hV, rfl, hfz, hnd⟩ := hW
  have hA : DataW.TrodAll enc Try.prog W 0 (fun _ => true) true Try.f9.params.toList args.toList ds p := hA0
  rw [Try.params9] at hA hval
  obtain ⟨v0, vs0, d0, ds0, p0, q0, hargs, rfl, rfl, h0, r0⟩ := trodAll_cons hA
  obtain ⟨v1, vs1, d1, ds1, p1, q1, rfl, rfl, rfl, h1, r1⟩ := trodAll_cons r0
  obtain ⟨v2, vs2, d2, ds2, p2, q2, rfl, rfl, rfl, h2, r2⟩ := trodAll_cons r1
  obtain ⟨rfl, rfl, rfl⟩ := trodAll_nil r2
  obtain rfl : args = #[v0, v1, v2] := by cases args; simp_all
  obtain ⟨rfl, rfl⟩ := trodVars_none hV
  obtain ⟨cs0, rfl, hcz0⟩ := okWide_struct Try.underlying23 (hval 0 23 v0 rfl rfl)
  rw [cellscopyhold_api_Call] at hcz0
  obtain ⟨c0_0, c0_1, c0_2, c0_3, c0_4, c0_5, c0_6, c0_7, rfl⟩ := array8_of hcz0
  obtain ⟨fuel0, hf0⟩ := h0
  obtain ⟨xs0, m0, _, hx0, _, hlen0, hfl0⟩ := DataW.trod_struct Try.underlying23 hf0
  obtain ⟨y0_0, y0_1, y0_2, y0_3, y0_4, y0_5, y0_6, y0_7, rfl⟩ := list8 hlen0
  have g0_0 : DataW.trod enc Try.prog W 0 (fun _ => true) true m0 3 [c0_0] = some y0_0 := by have h := hfl0 0 _ rfl; simpa [Value.cells, cellsint] using h
  have g0_1 : DataW.trod enc Try.prog W 0 (fun _ => true) true m0 3 [c0_1] = some y0_1 := by have h := hfl0 1 _ rfl; simpa [Value.cells, cellsint] using h
  have g0_2 : DataW.trod enc Try.prog W 0 (fun _ => true) true m0 3 [c0_2] = some y0_2 := by have h := hfl0 2 _ rfl; simpa [Value.cells, cellsint] using h
  have g0_3 : DataW.trod enc Try.prog W 0 (fun _ => true) true m0 3 [c0_3] = some y0_3 := by have h := hfl0 3 _ rfl; simpa [Value.cells, cellsint] using h
  have g0_4 : DataW.trod enc Try.prog W 0 (fun _ => true) true m0 3 [c0_4] = some y0_4 := by have h := hfl0 4 _ rfl; simpa [Value.cells, cellsint] using h
  have g0_5 : DataW.trod enc Try.prog W 0 (fun _ => true) true m0 9 [c0_5] = some y0_5 := by have h := hfl0 5 _ rfl; simpa [Value.cells, cellsstring] using h
  have g0_6 : DataW.trod enc Try.prog W 0 (fun _ => true) true m0 9 [c0_6] = some y0_6 := by have h := hfl0 6 _ rfl; simpa [Value.cells, cellsstring] using h
  have g0_7 : DataW.trod enc Try.prog W 0 (fun _ => true) true m0 9 [c0_7] = some y0_7 := by have h := hfl0 7 _ rfl; simpa [Value.cells, cellsstring] using h
  simp only [Prod.mk.injEq] at hx0
  obtain ⟨rfl, hp0⟩ := hx0
  subst hp0
  obtain ⟨a0_0, ev0_0, ey0_0, w0_0⟩ := DataW.trod_int Try.underlying3 g0_0
  obtain rfl : c0_0 = _ := by simpa using ev0_0
  subst ey0_0
  obtain ⟨a0_1, ev0_1, ey0_1, w0_1⟩ := DataW.trod_int Try.underlying3 g0_1
  obtain rfl : c0_1 = _ := by simpa using ev0_1
  subst ey0_1
  obtain ⟨a0_2, ev0_2, ey0_2, w0_2⟩ := DataW.trod_int Try.underlying3 g0_2
  obtain rfl : c0_2 = _ := by simpa using ev0_2
  subst ey0_2
  obtain ⟨a0_3, ev0_3, ey0_3, w0_3⟩ := DataW.trod_int Try.underlying3 g0_3
  obtain rfl : c0_3 = _ := by simpa using ev0_3
  subst ey0_3
  obtain ⟨a0_4, ev0_4, ey0_4, w0_4⟩ := DataW.trod_int Try.underlying3 g0_4
  obtain rfl : c0_4 = _ := by simpa using ev0_4
  subst ey0_4
  obtain ⟨s0_5, ev0_5, ey0_5, w0_5⟩ := DataW.trod_string Try.underlying9 g0_5
  obtain rfl : c0_5 = _ := by simpa using ev0_5
  subst ey0_5
  have z0_5 : s0_5.data.toList.length ≤ 140737488351232 := sized_deep hsz (by rw [Try.params9]; simp [DataW.weightsEach, DataW.weights, Try.underlying23, Try.underlying23])
  obtain ⟨a0_5, rfl⟩ : ∃ l : List UInt8, s0_5 = ⟨l.toArray⟩ := ⟨s0_5.data.toList, rfl⟩
  obtain ⟨s0_6, ev0_6, ey0_6, w0_6⟩ := DataW.trod_string Try.underlying9 g0_6
  obtain rfl : c0_6 = _ := by simpa using ev0_6
  subst ey0_6
  have z0_6 : s0_6.data.toList.length ≤ 140737488351232 := sized_deep hsz (by rw [Try.params9]; simp [DataW.weightsEach, DataW.weights, Try.underlying23, Try.underlying23])
  obtain ⟨a0_6, rfl⟩ : ∃ l : List UInt8, s0_6 = ⟨l.toArray⟩ := ⟨s0_6.data.toList, rfl⟩
  obtain ⟨s0_7, ev0_7, ey0_7, w0_7⟩ := DataW.trod_string Try.underlying9 g0_7
  obtain rfl : c0_7 = _ := by simpa using ev0_7
  subst ey0_7
  have z0_7 : s0_7.data.toList.length ≤ 140737488351232 := sized_deep hsz (by rw [Try.params9]; simp [DataW.weightsEach, DataW.weights, Try.underlying23, Try.underlying23])
  obtain ⟨a0_7, rfl⟩ : ∃ l : List UInt8, s0_7 = ⟨l.toArray⟩ := ⟨s0_7.data.toList, rfl⟩
  obtain ⟨cs1, rfl, hcz1⟩ := okWide_struct Try.underlying23 (hval 1 23 v1 rfl rfl)
  rw [cellscopyhold_api_Call] at hcz1
  obtain ⟨c1_0, c1_1, c1_2, c1_3, c1_4, c1_5, c1_6, c1_7, rfl⟩ := array8_of hcz1
  obtain ⟨fuel1, hf1⟩ := h1
  obtain ⟨xs1, m1, _, hx1, _, hlen1, hfl1⟩ := DataW.trod_struct Try.underlying23 hf1
  obtain ⟨y1_0, y1_1, y1_2, y1_3, y1_4, y1_5, y1_6, y1_7, rfl⟩ := list8 hlen1
  have g1_0 : DataW.trod enc Try.prog W 0 (fun _ => true) true m1 3 [c1_0] = some y1_0 := by have h := hfl1 0 _ rfl; simpa [Value.cells, cellsint] using h
  have g1_1 : DataW.trod enc Try.prog W 0 (fun _ => true) true m1 3 [c1_1] = some y1_1 := by have h := hfl1 1 _ rfl; simpa [Value.cells, cellsint] using h
  have g1_2 : DataW.trod enc Try.prog W 0 (fun _ => true) true m1 3 [c1_2] = some y1_2 := by have h := hfl1 2 _ rfl; simpa [Value.cells, cellsint] using h
  have g1_3 : DataW.trod enc Try.prog W 0 (fun _ => true) true m1 3 [c1_3] = some y1_3 := by have h := hfl1 3 _ rfl; simpa [Value.cells, cellsint] using h
  have g1_4 : DataW.trod enc Try.prog W 0 (fun _ => true) true m1 3 [c1_4] = some y1_4 := by have h := hfl1 4 _ rfl; simpa [Value.cells, cellsint] using h
  have g1_5 : DataW.trod enc Try.prog W 0 (fun _ => true) true m1 9 [c1_5] = some y1_5 := by have h := hfl1 5 _ rfl; simpa [Value.cells, cellsstring] using h
  have g1_6 : DataW.trod enc Try.prog W 0 (fun _ => true) true m1 9 [c1_6] = some y1_6 := by have h := hfl1 6 _ rfl; simpa [Value.cells, cellsstring] using h
  have g1_7 : DataW.trod enc Try.prog W 0 (fun _ => true) true m1 9 [c1_7] = some y1_7 := by have h := hfl1 7 _ rfl; simpa [Value.cells, cellsstring] using h
  simp only [Prod.mk.injEq] at hx1
  obtain ⟨rfl, hp1⟩ := hx1
  subst hp1
  obtain ⟨a1_0, ev1_0, ey1_0, w1_0⟩ := DataW.trod_int Try.underlying3 g1_0
  obtain rfl : c1_0 = _ := by simpa using ev1_0
  subst ey1_0
  obtain ⟨a1_1, ev1_1, ey1_1, w1_1⟩ := DataW.trod_int Try.underlying3 g1_1
  obtain rfl : c1_1 = _ := by simpa using ev1_1
  subst ey1_1
  obtain ⟨a1_2, ev1_2, ey1_2, w1_2⟩ := DataW.trod_int Try.underlying3 g1_2
  obtain rfl : c1_2 = _ := by simpa using ev1_2
  subst ey1_2
  obtain ⟨a1_3, ev1_3, ey1_3, w1_3⟩ := DataW.trod_int Try.underlying3 g1_3
  obtain rfl : c1_3 = _ := by simpa using ev1_3
  subst ey1_3
  obtain ⟨a1_4, ev1_4, ey1_4, w1_4⟩ := DataW.trod_int Try.underlying3 g1_4
  obtain rfl : c1_4 = _ := by simpa using ev1_4
  subst ey1_4
  obtain ⟨s1_5, ev1_5, ey1_5, w1_5⟩ := DataW.trod_string Try.underlying9 g1_5
  obtain rfl : c1_5 = _ := by simpa using ev1_5
  subst ey1_5
  have z1_5 : s1_5.data.toList.length ≤ 140737488351232 := sized_deep hsz (by rw [Try.params9]; simp [DataW.weightsEach, DataW.weights, Try.underlying23, Try.underlying23])
  obtain ⟨a1_5, rfl⟩ : ∃ l : List UInt8, s1_5 = ⟨l.toArray⟩ := ⟨s1_5.data.toList, rfl⟩
  obtain ⟨s1_6, ev1_6, ey1_6, w1_6⟩ := DataW.trod_string Try.underlying9 g1_6
  obtain rfl : c1_6 = _ := by simpa using ev1_6
  subst ey1_6
  have z1_6 : s1_6.data.toList.length ≤ 140737488351232 := sized_deep hsz (by rw [Try.params9]; simp [DataW.weightsEach, DataW.weights, Try.underlying23, Try.underlying23])
  obtain ⟨a1_6, rfl⟩ : ∃ l : List UInt8, s1_6 = ⟨l.toArray⟩ := ⟨s1_6.data.toList, rfl⟩
  obtain ⟨s1_7, ev1_7, ey1_7, w1_7⟩ := DataW.trod_string Try.underlying9 g1_7
  obtain rfl : c1_7 = _ := by simpa using ev1_7
  subst ey1_7
  have z1_7 : s1_7.data.toList.length ≤ 140737488351232 := sized_deep hsz (by rw [Try.params9]; simp [DataW.weightsEach, DataW.weights, Try.underlying23, Try.underlying23])
  obtain ⟨a1_7, rfl⟩ : ∃ l : List UInt8, s1_7 = ⟨l.toArray⟩ := ⟨s1_7.data.toList, rfl⟩
  obtain ⟨a2, rfl, rfl, rfl, w2⟩ := open_int Try.underlying3 (hval 2 3 v2 rfl rfl) h2
  refine (walk W a0_0 w0_0 a0_1 w0_1 a0_2 w0_2 a0_3 w0_3 a0_4 w0_4 a0_5 z0_5 a0_6 z0_6 a0_7 z0_7 a1_0 w1_0 a1_1 w1_1 a1_2 w1_2 a1_3 w1_3 a1_4 w1_4 a1_5 z1_5 a1_6 z1_6 a1_7 z1_7 a2 w2).mono fun e W' ⟨he, hg⟩ => ?_
  subst he
  exact ⟨_, rfl, Copyhold.law_post laidOut (by kernel_rfl) (by kernel_rfl) Try.underlying4 rfl rfl rfl rfl hW' hg⟩

theorem over : Rows.wireCallsRow.holds Try.pinned (OpenSpec.ofChange Rows.wireCallsSpec) :=
  OpenClaim.holds_of_wide 9 Try.f9 rfl rfl rfl rfl rfl rfl rfl ⟨rfl, rfl, rfl, rfl, rfl⟩ rfl rfl rfl rfl rfl (by kernel_rfl) Try.func9 (by kernel_rfl)
    (of_decide_eq_true (by kernel_rfl)) (by unfold Func.isWrapper; first | (rw [if_pos (by decide +kernel)]; kernel_rfl) | (rw [if_neg (by decide +kernel)]; exact ⟨rfl, rfl⟩))
    (fun os started H enc _ => lifted os started H enc)

theorem proved : Rows.WireCallsSaid :=
  over
end Go.Proofs.Ytpojhcpkmpbflaa.wireCalls
