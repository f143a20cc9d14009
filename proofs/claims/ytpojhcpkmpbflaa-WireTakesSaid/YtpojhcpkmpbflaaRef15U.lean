/- copyholdref15.begun, TakeCall, TakeMsg, TakeRsp: the document's own answers; old memory is as it was. -/
import Derived.Test.YtpojhcpkmpbflaaRef15T
import Derived.Test.YtpojhcpkmpbflaaWireP5
import Derived.Test.YtpojhcpkmpbflaaRef02b
import Derived.Test.YtpojhcpkmpbflaaRef01TakeList
import Derived.Test.YtpojhcpkmpbflaaSet14
import Derived.Test.YtpojhcpkmpbflaaSet11
import Derived.Test.YtpojhcpkmpbflaaLaw
set_option linter.unusedVariables false
set_option linter.unusedSimpArgs false
namespace Go.Proofs.Ytpojhcpkmpbflaa
open Go.RowKit Copyhold

attribute [local go_sem] piece
set_option maxRecDepth 100000 in
set_option maxHeartbeats 4000000 in
theorem ref15_begun (l : List UInt8) (b : UInt8) (w : World) (hl : l.length ≤ 140737488355328) :
    Calls Try.prog 45 #[.string ⟨l.toArray⟩, .int .u8 (b.toNat : Int)] w fun e w' => e = .returned (.tuple #[.string ⟨(begunT b l).1.toArray⟩, .int .i64 (begunT b l).2]) ∧ Below w.heap.size w w' := by
  have HT := Lib.hid (fun W => ref_Take l W hl)
  have hq : begunT b l = if (takeS l).2 ≠ 0 then ([], (takeS l).2) else match behindL b (takeS l).1 with
    | none => ([], 3)
    | some r => (r, 0) := rfl
  have hbd := (takeS_bd l).2.2
  generalize begunT b l = q at *
  generalize takeS l = x at *
  obtain ⟨body, er⟩ := x
  simp only at HT hq hbd
  by_cases he : er = 0
  · subst he
    rw [if_neg (by simp)] at hq
    cases body with
    | nil =>
      have HQ := Lib.hid (show q = ([], 3) from hq)
      clear hq
      go_enter Try.func45, Try.ntmps45
      go_wp2_with fail
      refine (HT.out _).mono ?_
      rintro e w1 ⟨rfl, hb⟩
      have HB1 := Lib.hid hb
      clear hb
      go_wp2_with fail
      go_ret2
      exact ⟨by rw [HQ.out]; rfl, HB1.out⟩
    | cons y r =>
      have hx0 : (((⟨(y :: r).toArray⟩ : ByteArray)[0]'(by simp [ByteArray.size])).toNat : Int) = (y.toNat : Int) := rfl
      by_cases hy : y = b
      · subst hy
        have HQ := Lib.hid (show q = (r, 0) from by rw [hq]; simp [behindL])
        clear hq
        have hx : ((y :: r).toArray.extract 1 (y :: r).length) = r.toArray := by simp
        go_enter Try.func45, Try.ntmps45
        go_wp2_with fail
        refine (HT.out _).mono ?_
        rintro e w1 ⟨rfl, hb⟩
        have HB1 := Lib.hid hb
        clear hb
        go_wp2_with fail
        go_ret2
        exact ⟨by rw [HQ.out]; rfl, HB1.out⟩
      · have HQ := Lib.hid (show q = ([], 3) from by rw [hq]; simp [behindL, hy])
        have hne : ((y.toNat : Int) == (b.toNat : Int)) = false := by
          rw [beq_eq_false_iff_ne]
          intro h
          exact hy (UInt8.toNat_inj.1 (by omega))
        have hne2 : ((y.toNat : Int) != (b.toNat : Int)) = true := by rw [bne, hne]; rfl
        clear hq hy
        go_enter Try.func45, Try.ntmps45
        go_wp2_with fail
        refine (HT.out _).mono ?_
        rintro e w1 ⟨rfl, hb⟩
        have HB1 := Lib.hid hb
        clear hb
        go_wp2_with fail
        go_ret2
        exact ⟨by rw [HQ.out]; rfl, HB1.out⟩
  · have HQ := Lib.hid (show q = ([], er) from by rw [hq, if_pos he])
    have hne : (er == 0) = false := by simpa using he
    have hne2 : (er != 0) = true := by simpa using he
    clear hq
    go_enter Try.func45, Try.ntmps45
    go_wp2_with fail
    refine (HT.out _).mono ?_
    rintro e w1 ⟨rfl, hb⟩
    have HB1 := Lib.hid hb
    clear hb
    go_wp2_with fail
    go_ret2
    exact ⟨by rw [HQ.out]; rfl, HB1.out⟩

theorem OpenW.trans_drew {w V : World} {M : Nat} (h : V = w.drew) : OpenW w M V := by rw [h]; exact OpenW.drew w M
theorem OpenW.setM {w w' : World} {M : Nat} (h : OpenW w M w') (o : Nat) (v : Value) : OpenW w M (w'.setCell ⟨M, o, none⟩ v) := by
  obtain ⟨h1, h2, h3⟩ := h
  refine ⟨fun k hk hs => ?_, by simpa using h2, fun base a ha hM hs => (h3 base a ha hM hs).setCell (p := ⟨M, o, none⟩) hM _⟩
  rw [heap_setCell_far _ _ _ _ (by simpa using hk)]
  exact h1 k hk hs
theorem OpenW.put8 {w w' : World} {M : Nat} (h : OpenW w M w') (x0 x1 x2 x3 x4 x5 x6 x7 : Value) : OpenW w M (set8 w' M x0 x1 x2 x3 x4 x5 x6 x7) := by
  unfold set8
  exact (OpenW.setM (OpenW.setM (OpenW.setM (OpenW.setM (OpenW.setM (OpenW.setM (OpenW.setM (OpenW.setM h 0 x0) 1 x1) 2 x2) 3 x3) 4 x4) 5 x5) 6 x6) 7 x7)
theorem OpenW.put11 {w w' : World} {M : Nat} (h : OpenW w M w') (x0 x1 x2 x3 x4 x5 x6 x7 x8 x9 x10 : Value) : OpenW w M (set11 w' M x0 x1 x2 x3 x4 x5 x6 x7 x8 x9 x10) := by
  unfold set11
  exact (OpenW.setM (OpenW.setM (OpenW.setM (OpenW.setM (OpenW.setM (OpenW.setM (OpenW.setM (OpenW.setM (OpenW.setM (OpenW.setM (OpenW.setM h 0 x0) 1 x1) 2 x2) 3 x3) 4 x4) 5 x5) 6 x6) 7 x7) 8 x8) 9 x9) 10 x10)
theorem OpenW.put14 {w w' : World} {M : Nat} (h : OpenW w M w') (x0 x1 x2 x3 x4 x5 x6 x7 x8 x9 x10 x11 x12 x13 : Value) : OpenW w M (set14 w' M x0 x1 x2 x3 x4 x5 x6 x7 x8 x9 x10 x11 x12 x13) := by
  unfold set14
  exact (OpenW.setM (OpenW.setM (OpenW.setM (OpenW.setM (OpenW.setM (OpenW.setM (OpenW.setM (OpenW.setM (OpenW.setM (OpenW.setM (OpenW.setM (OpenW.setM (OpenW.setM (OpenW.setM h 0 x0) 1 x1) 2 x2) 3 x3) 4 x4) 5 x5) 6 x6) 7 x7) 8 x8) 9 x9) 10 x10) 11 x11) 12 x12) 13 x13)

set_option maxRecDepth 100000 in
set_option maxHeartbeats 16000000 in
theorem ref15_TakeCall (l : List UInt8) (w : World) (hl : l.length ≤ 2147483648) :
    Calls Try.prog 22 #[.string ⟨l.toArray⟩] w fun e w' => e = .returned (.tuple #[callV (takeCall l).1, .string ⟨(takeCall l).2.1.toArray⟩, .int .i64 (takeCall l).2.2]) ∧ Below w.heap.size w w' := by
  have HQ := Lib.hid (takeCall_nums l)
  have hn := numsT_len 5 l
  have HN := Lib.hid (fun W => ref15_numbers l 5 W hl (by decide))
  unfold RetNums at HN
  obtain ⟨q, hq⟩ : ∃ q, q = takeCall l := ⟨_, rfl⟩
  rw [← hq] at HQ ⊢
  clear hq
  generalize numsT 5 l = x at *
  obtain ⟨ns, s1, e1⟩ := x
  simp only at HN hn
  obtain ⟨w0, hW⟩ : ∃ W, W = w.alloc (.cells #[.int .i64 0, .int .i64 0, .int .i64 0, .int .i64 0, .int .i64 0, .string ⟨#[]⟩, .string ⟨#[]⟩, .string ⟨#[]⟩] 23) := ⟨_, rfl⟩
  have hbn : Below w.heap.size w w0 := by rw [hW]; exact (Below.refl _ _).alloc (Nat.le_refl _) _
  have HM0 := Lib.hid (show TBox w0 w.heap.size 23 #[.int .i64 0, .int .i64 0, .int .i64 0, .int .i64 0, .int .i64 0, .string ⟨#[]⟩, .string ⟨#[]⟩, .string ⟨#[]⟩] from by rw [hW]; exact TBox.new _ _ _)
  have BW0 := Lib.hid hbn
  have HW := Lib.hid hW
  clear hW hbn
  go_enter Try.func22, Try.ntmps22
  go_wp2_with fail
  rw [← HW.out]
  refine (HN.out w0).mono ?_
  rintro e w1 ⟨A, cp, rfl, ho, hb⟩
  have HM1 := Lib.hid (HM0.out.below hb)
  have BW1 := Lib.hid (below_trans BW0.out hb BW0.out.size)
  have HO1 := Lib.hid ho
  have hlt0 : w.heap.size < w0.heap.size := HM0.out.lt
  clear ho hb
  by_cases he : e1 = 0
  · subst he
    obtain ⟨q1, q2, q3, q4, q5, rfl⟩ := list5 (hn.2.2.1 rfl)
    have HQ2 := Lib.hid (HQ.out.trans (thenP_ok (r := ([q1, q2, q3, q4, q5], s1, 0)) rfl))
    have hl1 := takeText_bd s1 4096
    have HT1 := Lib.hid (fun W => ref_TakeText s1 4096 W (by omega) (by decide) (by decide))
    simp only at HQ2
    generalize takeText s1 4096 = x at *
    obtain ⟨ta, s2, e2⟩ := x
    simp only at HT1 hl1
    go_wp2_with fail
    refine (HT1.out _).mono ?_
    rintro e w2 ⟨rfl, hb⟩
    have HM2 := Lib.hid (HM1.out.below hb)
    have BW2 := Lib.hid (below_trans BW1.out hb BW1.out.size)
    have hb12 := Lib.hid hb
    clear hb
    by_cases he : e2 = 0
    · subst he
      have HQ3 := Lib.hid (HQ2.out.trans (thenP_ok (r := (ta, s2, 0)) rfl))
      have hl2 := takeText_bd s2 4096
      have HT2 := Lib.hid (fun W => ref_TakeText s2 4096 W (by omega) (by decide) (by decide))
      simp only at HQ3
      generalize takeText s2 4096 = x at *
      obtain ⟨tb, s3, e3⟩ := x
      simp only at HT2 hl2
      go_wp2_with fail
      refine (HT2.out _).mono ?_
      rintro e w3 ⟨rfl, hb⟩
      have HM3 := Lib.hid (HM2.out.below hb)
      have BW3 := Lib.hid (below_trans BW2.out hb BW2.out.size)
      have hb23 := Lib.hid hb
      clear hb
      by_cases he : e3 = 0
      · subst he
        have HQ4 := Lib.hid (HQ3.out.trans (thenP_ok (r := (tb, s3, 0)) rfl))
        have hl3 := takeText_bd s3 4096
        have HT3 := Lib.hid (fun W => ref_TakeText s3 4096 W (by omega) (by decide) (by decide))
        simp only at HQ4
        generalize takeText s3 4096 = x at *
        obtain ⟨tc, s4, e4⟩ := x
        simp only at HT3 hl3
        go_wp2_with fail
        refine (HT3.out _).mono ?_
        rintro e w4 ⟨rfl, hb⟩
        have HM4 := Lib.hid (HM3.out.below hb)
        have BW4 := Lib.hid (below_trans BW3.out hb BW3.out.size)
        have hb34 := Lib.hid hb
        clear hb
        by_cases he : e4 = 0
        · subst he
          have HE := Lib.hid (HQ4.out.trans (thenP_ok (r := (tc, s4, 0)) rfl))
          have ho4 := owns_below (owns_below (owns_below HO1.out hb12.out) hb23.out) hb34.out
          obtain ⟨g', cap, hsl, hg1, hg2, hg3, hcg⟩ := owns_open ho4 (by simp)
          simp only [Value.slice.injEq] at hsl
          obtain ⟨rfl, -, rfl⟩ := hsl
          have HC := Lib.hid hcg
          have hgm : g' ≠ w.heap.size := by omega
          clear ho4 hcg
          go_wp2_with fail
          refine wp_region_held_drew (S := OpenW w4 w.heap.size) (by kernel_rfl) (OpenW.drew _ _) (fun hHeld => ?_)
          obtain ⟨wd, hWD⟩ : ∃ V, V = w4.drew := ⟨_, rfl⟩
          rw [← hWD] at hHeld ⊢
          have HMd := Lib.hid (show TBox wd w.heap.size 23 #[.int .i64 0, .int .i64 0, .int .i64 0, .int .i64 0, .int .i64 0, .string ⟨#[]⟩, .string ⟨#[]⟩, .string ⟨#[]⟩] from by rw [hWD]; exact HM4.out)
          have BWd := Lib.hid (show Below w.heap.size w wd from by rw [hWD]; exact below_dn BW4.out 1)
          clear hWD
          refine wpAnyH_take (i := 0) (v := ?_) rfl (by kernel_rfl) (by kernel_rfl) (by kernel_rfl) (fun _ _ _ h => h) (Or.inl ⟨by rfl, ?_⟩) (by assumption) ?_
          rotate_left
          · intro X hSw
            go_simp
            try with_reducible rfl
          rotate_left
          try simp only [Act.put, List.setIfInBounds_toArray, List.set_cons_zero, List.set_cons_succ, List.getElem_toArray, List.getElem_cons_zero, List.getElem_cons_succ]
          refine wpAnyH_take (i := 1) (v := ?_) rfl (by kernel_rfl) (by kernel_rfl) (by kernel_rfl) (fun _ _ _ h => h) (Or.inl ⟨by rfl, ?_⟩) (by assumption) ?_
          rotate_left
          · intro X hSw
            go_simp
            try with_reducible rfl
          rotate_left
          try simp only [Act.put, List.setIfInBounds_toArray, List.set_cons_zero, List.set_cons_succ, List.getElem_toArray, List.getElem_cons_zero, List.getElem_cons_succ]
          refine wpAnyH_take (i := 2) (v := ?_) rfl (by kernel_rfl) (by kernel_rfl) (by kernel_rfl) (fun _ _ _ h => h) (Or.inl ⟨by rfl, ?_⟩) (by assumption) ?_
          rotate_left
          · intro X hSw
            have hc : X.cell? ⟨g', 0, none⟩ = some (.int .i64 q1) := hSw.cell (HC.out 0 _ rfl) hgm
            go_simp
            try with_reducible rfl
          rotate_left
          try simp only [Act.put, List.setIfInBounds_toArray, List.set_cons_zero, List.set_cons_succ, List.getElem_toArray, List.getElem_cons_zero, List.getElem_cons_succ]
          refine wpAnyH_take (i := 3) (v := ?_) rfl (by kernel_rfl) (by kernel_rfl) (by kernel_rfl) (fun _ _ _ h => h) (Or.inl ⟨by rfl, ?_⟩) (by assumption) ?_
          rotate_left
          · intro X hSw
            go_simp
            try with_reducible rfl
          rotate_left
          try simp only [Act.put, List.setIfInBounds_toArray, List.set_cons_zero, List.set_cons_succ, List.getElem_toArray, List.getElem_cons_zero, List.getElem_cons_succ]
          refine wpAnyH_take (i := 4) (v := ?_) rfl (by kernel_rfl) (by kernel_rfl) (by kernel_rfl) (fun _ _ _ h => h) (Or.inl ⟨by rfl, ?_⟩) (by assumption) ?_
          rotate_left
          · intro X hSw
            go_simp
            try with_reducible rfl
          rotate_left
          try simp only [Act.put, List.setIfInBounds_toArray, List.set_cons_zero, List.set_cons_succ, List.getElem_toArray, List.getElem_cons_zero, List.getElem_cons_succ]
          refine wpAnyH_take (i := 5) (v := ?_) rfl (by kernel_rfl) (by kernel_rfl) (by kernel_rfl) (fun _ _ _ h => h) (Or.inl ⟨by rfl, ?_⟩) (by assumption) ?_
          rotate_left
          · intro X hSw
            have hc : X.cell? ⟨g', 1, none⟩ = some (.int .i64 q2) := hSw.cell (HC.out 1 _ rfl) hgm
            go_simp
            try with_reducible rfl
          rotate_left
          try simp only [Act.put, List.setIfInBounds_toArray, List.set_cons_zero, List.set_cons_succ, List.getElem_toArray, List.getElem_cons_zero, List.getElem_cons_succ]
          refine wpAnyH_take (i := 6) (v := ?_) rfl (by kernel_rfl) (by kernel_rfl) (by kernel_rfl) (fun _ _ _ h => h) (Or.inl ⟨by rfl, ?_⟩) (by assumption) ?_
          rotate_left
          · intro X hSw
            go_simp
            try with_reducible rfl
          rotate_left
          try simp only [Act.put, List.setIfInBounds_toArray, List.set_cons_zero, List.set_cons_succ, List.getElem_toArray, List.getElem_cons_zero, List.getElem_cons_succ]
          refine wpAnyH_take (i := 7) (v := ?_) rfl (by kernel_rfl) (by kernel_rfl) (by kernel_rfl) (fun _ _ _ h => h) (Or.inl ⟨by rfl, ?_⟩) (by assumption) ?_
          rotate_left
          · intro X hSw
            go_simp
            try with_reducible rfl
          rotate_left
          try simp only [Act.put, List.setIfInBounds_toArray, List.set_cons_zero, List.set_cons_succ, List.getElem_toArray, List.getElem_cons_zero, List.getElem_cons_succ]
          refine wpAnyH_take (i := 8) (v := ?_) rfl (by kernel_rfl) (by kernel_rfl) (by kernel_rfl) (fun _ _ _ h => h) (Or.inl ⟨by rfl, ?_⟩) (by assumption) ?_
          rotate_left
          · intro X hSw
            have hc : X.cell? ⟨g', 2, none⟩ = some (.int .i64 q3) := hSw.cell (HC.out 2 _ rfl) hgm
            go_simp
            try with_reducible rfl
          rotate_left
          try simp only [Act.put, List.setIfInBounds_toArray, List.set_cons_zero, List.set_cons_succ, List.getElem_toArray, List.getElem_cons_zero, List.getElem_cons_succ]
          refine wpAnyH_take (i := 9) (v := ?_) rfl (by kernel_rfl) (by kernel_rfl) (by kernel_rfl) (fun _ _ _ h => h) (Or.inl ⟨by rfl, ?_⟩) (by assumption) ?_
          rotate_left
          · intro X hSw
            go_simp
            try with_reducible rfl
          rotate_left
          try simp only [Act.put, List.setIfInBounds_toArray, List.set_cons_zero, List.set_cons_succ, List.getElem_toArray, List.getElem_cons_zero, List.getElem_cons_succ]
          refine wpAnyH_take (i := 10) (v := ?_) rfl (by kernel_rfl) (by kernel_rfl) (by kernel_rfl) (fun _ _ _ h => h) (Or.inl ⟨by rfl, ?_⟩) (by assumption) ?_
          rotate_left
          · intro X hSw
            go_simp
            try with_reducible rfl
          rotate_left
          try simp only [Act.put, List.setIfInBounds_toArray, List.set_cons_zero, List.set_cons_succ, List.getElem_toArray, List.getElem_cons_zero, List.getElem_cons_succ]
          refine wpAnyH_take (i := 11) (v := ?_) rfl (by kernel_rfl) (by kernel_rfl) (by kernel_rfl) (fun _ _ _ h => h) (Or.inl ⟨by rfl, ?_⟩) (by assumption) ?_
          rotate_left
          · intro X hSw
            have hc : X.cell? ⟨g', 3, none⟩ = some (.int .i64 q4) := hSw.cell (HC.out 3 _ rfl) hgm
            go_simp
            try with_reducible rfl
          rotate_left
          try simp only [Act.put, List.setIfInBounds_toArray, List.set_cons_zero, List.set_cons_succ, List.getElem_toArray, List.getElem_cons_zero, List.getElem_cons_succ]
          refine wpAnyH_take (i := 12) (v := ?_) rfl (by kernel_rfl) (by kernel_rfl) (by kernel_rfl) (fun _ _ _ h => h) (Or.inl ⟨by rfl, ?_⟩) (by assumption) ?_
          rotate_left
          · intro X hSw
            go_simp
            try with_reducible rfl
          rotate_left
          try simp only [Act.put, List.setIfInBounds_toArray, List.set_cons_zero, List.set_cons_succ, List.getElem_toArray, List.getElem_cons_zero, List.getElem_cons_succ]
          refine wpAnyH_take (i := 13) (v := ?_) rfl (by kernel_rfl) (by kernel_rfl) (by kernel_rfl) (fun _ _ _ h => h) (Or.inl ⟨by rfl, ?_⟩) (by assumption) ?_
          rotate_left
          · intro X hSw
            go_simp
            try with_reducible rfl
          rotate_left
          try simp only [Act.put, List.setIfInBounds_toArray, List.set_cons_zero, List.set_cons_succ, List.getElem_toArray, List.getElem_cons_zero, List.getElem_cons_succ]
          refine wpAnyH_take (i := 14) (v := ?_) rfl (by kernel_rfl) (by kernel_rfl) (by kernel_rfl) (fun _ _ _ h => h) (Or.inl ⟨by rfl, ?_⟩) (by assumption) ?_
          rotate_left
          · intro X hSw
            have hc : X.cell? ⟨g', 4, none⟩ = some (.int .i64 q5) := hSw.cell (HC.out 4 _ rfl) hgm
            go_simp
            try with_reducible rfl
          rotate_left
          try simp only [Act.put, List.setIfInBounds_toArray, List.set_cons_zero, List.set_cons_succ, List.getElem_toArray, List.getElem_cons_zero, List.getElem_cons_succ]
          refine wpAnyH_take (i := 15) (v := ?_) rfl (by kernel_rfl) (by kernel_rfl) (by kernel_rfl) (fun _ _ _ h => h) (Or.inl ⟨by rfl, ?_⟩) (by assumption) ?_
          rotate_left
          · intro X hSw
            go_simp
            try with_reducible rfl
          rotate_left
          try simp only [Act.put, List.setIfInBounds_toArray, List.set_cons_zero, List.set_cons_succ, List.getElem_toArray, List.getElem_cons_zero, List.getElem_cons_succ]
          refine wpAnyH_take (i := 16) (v := ?_) rfl (by kernel_rfl) (by kernel_rfl) (by kernel_rfl) (fun _ _ _ h => h) (Or.inl ⟨by rfl, ?_⟩) (by assumption) ?_
          rotate_left
          · intro X hSw
            go_simp
            try with_reducible rfl
          rotate_left
          try simp only [Act.put, List.setIfInBounds_toArray, List.set_cons_zero, List.set_cons_succ, List.getElem_toArray, List.getElem_cons_zero, List.getElem_cons_succ]
          refine wpAnyH_take (i := 17) (v := ?_) rfl (by kernel_rfl) (by kernel_rfl) (by kernel_rfl) (fun _ _ _ h => h) (Or.inl ⟨by rfl, ?_⟩) (by assumption) ?_
          rotate_left
          · intro X hSw
            go_simp
            try with_reducible rfl
          rotate_left
          try simp only [Act.put, List.setIfInBounds_toArray, List.set_cons_zero, List.set_cons_succ, List.getElem_toArray, List.getElem_cons_zero, List.getElem_cons_succ]
          refine wpAnyH_take (i := 18) (v := ?_) rfl (by kernel_rfl) (by kernel_rfl) (by kernel_rfl) (fun _ _ _ h => h) (Or.inl ⟨by rfl, ?_⟩) (by assumption) ?_
          rotate_left
          · intro X hSw
            go_simp
            try with_reducible rfl
          rotate_left
          try simp only [Act.put, List.setIfInBounds_toArray, List.set_cons_zero, List.set_cons_succ, List.getElem_toArray, List.getElem_cons_zero, List.getElem_cons_succ]
          refine wpAnyH_take (i := 19) (v := ?_) rfl (by kernel_rfl) (by kernel_rfl) (by kernel_rfl) (fun _ _ _ h => h) (Or.inl ⟨by rfl, ?_⟩) (by assumption) ?_
          rotate_left
          · intro X hSw
            go_simp
            try with_reducible rfl
          rotate_left
          try simp only [Act.put, List.setIfInBounds_toArray, List.set_cons_zero, List.set_cons_succ, List.getElem_toArray, List.getElem_cons_zero, List.getElem_cons_succ]
          refine wpAnyH_ready (rs := [20]) (by kernel_rfl) (by simp) ?_
          refine (AllReadyH.cons rfl (fun K hK => ?_) AllReadyH.nil)
          rw [if_pos (by rfl)]
          have c0 : wd.cell? ⟨w.heap.size, 0, none⟩ = some (.int .i64 0) := HMd.out.cell 0
          have g0 := HMd.out.free 0
          have c1 : wd.cell? ⟨w.heap.size, 1, none⟩ = some (.int .i64 0) := HMd.out.cell 1
          have g1 := HMd.out.free 1
          have c2 : wd.cell? ⟨w.heap.size, 2, none⟩ = some (.int .i64 0) := HMd.out.cell 2
          have g2 := HMd.out.free 2
          have c3 : wd.cell? ⟨w.heap.size, 3, none⟩ = some (.int .i64 0) := HMd.out.cell 3
          have g3 := HMd.out.free 3
          have c4 : wd.cell? ⟨w.heap.size, 4, none⟩ = some (.int .i64 0) := HMd.out.cell 4
          have g4 := HMd.out.free 4
          have c5 : wd.cell? ⟨w.heap.size, 5, none⟩ = some (.string ⟨#[]⟩) := HMd.out.cell 5
          have g5 := HMd.out.free 5
          have c6 : wd.cell? ⟨w.heap.size, 6, none⟩ = some (.string ⟨#[]⟩) := HMd.out.cell 6
          have g6 := HMd.out.free 6
          have c7 : wd.cell? ⟨w.heap.size, 7, none⟩ = some (.string ⟨#[]⟩) := HMd.out.cell 7
          have g7 := HMd.out.free 7
          go_wp2_with fail
          obtain ⟨V9, hV⟩ : ∃ V, V = ((((((((wd.setCell ⟨w.heap.size, 0, none⟩ (.int .i64 q1)).setCell ⟨w.heap.size, 1, none⟩ (.int .i64 q2)).setCell ⟨w.heap.size, 2, none⟩ (.int .i64 q3)).setCell ⟨w.heap.size, 3, none⟩ (.int .i64 q4)).setCell ⟨w.heap.size, 4, none⟩ (.int .i64 q5)).setCell ⟨w.heap.size, 5, none⟩ (.string ⟨ta.toArray⟩)).setCell ⟨w.heap.size, 6, none⟩ (.string ⟨tb.toArray⟩)).setCell ⟨w.heap.size, 7, none⟩ (.string ⟨tc.toArray⟩)) := ⟨_, rfl⟩
          rw [← hV]
          replace hV : V9 = set8 wd w.heap.size (.int .i64 q1) (.int .i64 q2) (.int .i64 q3) (.int .i64 q4) (.int .i64 q5) (.string ⟨ta.toArray⟩) (.string ⟨tb.toArray⟩) (.string ⟨tc.toArray⟩) := hV
          have HVV := Lib.hid hV
          have hop : OpenW w4 w.heap.size V9 := by rw [hV]; exact OpenW.put8 hHeld _ _ _ _ _ _ _ _
          clear hV
          clear c0 g0 c1 g1 c2 g2 c3 g3 c4 g4 c5 g5 c6 g6 c7 g7
          refine hK.out _ _ hop (fun _ => ?_)
          clear hK K
          try simp only [Act.put, List.setIfInBounds_toArray, List.set_cons_zero, List.set_cons_succ, List.getElem_toArray, List.getElem_cons_zero, List.getElem_cons_succ]
          refine wpAnyH_take (i := 21) (v := ?_) rfl (by kernel_rfl) (by kernel_rfl) (by kernel_rfl) (fun _ _ _ h => h) (Or.inl ⟨by rfl, ?_⟩) (by assumption) ?_
          rotate_left
          · intro X hSw
            go_simp
            try with_reducible rfl
          rotate_left
          try simp only [Act.put, List.setIfInBounds_toArray, List.set_cons_zero, List.set_cons_succ, List.getElem_toArray, List.getElem_cons_zero, List.getElem_cons_succ]
          refine wpAnyH_take (i := 22) (v := ?_) rfl (by kernel_rfl) (by kernel_rfl) (by kernel_rfl) (fun _ _ _ h => h) (Or.inl ⟨by rfl, ?_⟩) (by assumption) ?_
          rotate_left
          · intro X hSw
            go_simp
            try with_reducible rfl
          rotate_left
          try simp only [Act.put, List.setIfInBounds_toArray, List.set_cons_zero, List.set_cons_succ, List.getElem_toArray, List.getElem_cons_zero, List.getElem_cons_succ]
          refine wpAnyH_done (by kernel_rfl) ?_ _
          have hV := HVV.out
          have tz : TBox V9 w.heap.size 23 #[.int .i64 q1, .int .i64 q2, .int .i64 q3, .int .i64 q4, .int .i64 q5, .string ⟨ta.toArray⟩, .string ⟨tb.toArray⟩, .string ⟨tc.toArray⟩] := by rw [hV]; exact set8_box HMd.out (.int .i64 q1) (.int .i64 q2) (.int .i64 q3) (.int .i64 q4) (.int .i64 q5) (.string ⟨ta.toArray⟩) (.string ⟨tb.toArray⟩) (.string ⟨tc.toArray⟩)
          have hz : Below w.heap.size w V9 := by rw [hV]; exact set8_below BWd.out (Nat.le_refl _) (.int .i64 q1) (.int .i64 q2) (.int .i64 q3) (.int .i64 q4) (.int .i64 q5) (.string ⟨ta.toArray⟩) (.string ⟨tb.toArray⟩) (.string ⟨tc.toArray⟩)
          have qq0 : V9.cell? ⟨w.heap.size, 0, none⟩ = some (.int .i64 q1) := tz.cell 0
          have qq1 : V9.cell? ⟨w.heap.size, 1, none⟩ = some (.int .i64 q2) := tz.cell 1
          have qq2 : V9.cell? ⟨w.heap.size, 2, none⟩ = some (.int .i64 q3) := tz.cell 2
          have qq3 : V9.cell? ⟨w.heap.size, 3, none⟩ = some (.int .i64 q4) := tz.cell 3
          have qq4 : V9.cell? ⟨w.heap.size, 4, none⟩ = some (.int .i64 q5) := tz.cell 4
          have qq5 : V9.cell? ⟨w.heap.size, 5, none⟩ = some (.string ⟨ta.toArray⟩) := tz.cell 5
          have qq6 : V9.cell? ⟨w.heap.size, 6, none⟩ = some (.string ⟨tb.toArray⟩) := tz.cell 6
          have qq7 : V9.cell? ⟨w.heap.size, 7, none⟩ = some (.string ⟨tc.toArray⟩) := tz.cell 7
          clear hV
          go_wp2_with fail
          refine bodyPost_ret (v := .tuple #[.agg #[.int .i64 q1, .int .i64 q2, .int .i64 q3, .int .i64 q4, .int .i64 q5, .string ⟨ta.toArray⟩, .string ⟨tb.toArray⟩, .string ⟨tc.toArray⟩], .string ⟨s4.toArray⟩, .int .i64 0]) (by simp [results, Try.results22, go_sem, qq0, qq1, qq2, qq3, qq4, qq5, qq6, qq7]) rfl ⟨by rw [HE.out]; rfl, hz⟩
        · have HE := Lib.hid (HQ4.out.trans (thenP_no (r := (tc, s4, e4)) he))
          have hne : (e4 == 0) = false := by simpa using he
          have hne2 : (e4 != 0) = true := by simpa using he
          have c0 : w4.cell? ⟨w.heap.size, 0, none⟩ = some (.int .i64 0) := HM4.out.cell 0
          have g0 := HM4.out.free 0
          have c1 : w4.cell? ⟨w.heap.size, 1, none⟩ = some (.int .i64 0) := HM4.out.cell 1
          have g1 := HM4.out.free 1
          have c2 : w4.cell? ⟨w.heap.size, 2, none⟩ = some (.int .i64 0) := HM4.out.cell 2
          have g2 := HM4.out.free 2
          have c3 : w4.cell? ⟨w.heap.size, 3, none⟩ = some (.int .i64 0) := HM4.out.cell 3
          have g3 := HM4.out.free 3
          have c4 : w4.cell? ⟨w.heap.size, 4, none⟩ = some (.int .i64 0) := HM4.out.cell 4
          have g4 := HM4.out.free 4
          have c5 : w4.cell? ⟨w.heap.size, 5, none⟩ = some (.string ⟨#[]⟩) := HM4.out.cell 5
          have g5 := HM4.out.free 5
          have c6 : w4.cell? ⟨w.heap.size, 6, none⟩ = some (.string ⟨#[]⟩) := HM4.out.cell 6
          have g6 := HM4.out.free 6
          have c7 : w4.cell? ⟨w.heap.size, 7, none⟩ = some (.string ⟨#[]⟩) := HM4.out.cell 7
          have g7 := HM4.out.free 7
          go_wp2_with fail
          obtain ⟨V9, hV⟩ : ∃ V, V = ((((((((w4.setCell ⟨w.heap.size, 0, none⟩ (.int .i64 0)).setCell ⟨w.heap.size, 1, none⟩ (.int .i64 0)).setCell ⟨w.heap.size, 2, none⟩ (.int .i64 0)).setCell ⟨w.heap.size, 3, none⟩ (.int .i64 0)).setCell ⟨w.heap.size, 4, none⟩ (.int .i64 0)).setCell ⟨w.heap.size, 5, none⟩ (.string ⟨#[]⟩)).setCell ⟨w.heap.size, 6, none⟩ (.string ⟨#[]⟩)).setCell ⟨w.heap.size, 7, none⟩ (.string ⟨#[]⟩)) := ⟨_, rfl⟩
          rw [← hV]
          replace hV : V9 = set8 w4 w.heap.size (.int .i64 0) (.int .i64 0) (.int .i64 0) (.int .i64 0) (.int .i64 0) (.string ⟨#[]⟩) (.string ⟨#[]⟩) (.string ⟨#[]⟩) := hV
          have tz : TBox V9 w.heap.size 23 #[.int .i64 0, .int .i64 0, .int .i64 0, .int .i64 0, .int .i64 0, .string ⟨#[]⟩, .string ⟨#[]⟩, .string ⟨#[]⟩] := by rw [hV]; exact set8_box HM4.out (.int .i64 0) (.int .i64 0) (.int .i64 0) (.int .i64 0) (.int .i64 0) (.string ⟨#[]⟩) (.string ⟨#[]⟩) (.string ⟨#[]⟩)
          have hz : Below w.heap.size w V9 := by rw [hV]; exact set8_below BW4.out (Nat.le_refl _) (.int .i64 0) (.int .i64 0) (.int .i64 0) (.int .i64 0) (.int .i64 0) (.string ⟨#[]⟩) (.string ⟨#[]⟩) (.string ⟨#[]⟩)
          have q0 : V9.cell? ⟨w.heap.size, 0, none⟩ = some (.int .i64 0) := tz.cell 0
          have q1 : V9.cell? ⟨w.heap.size, 1, none⟩ = some (.int .i64 0) := tz.cell 1
          have q2 : V9.cell? ⟨w.heap.size, 2, none⟩ = some (.int .i64 0) := tz.cell 2
          have q3 : V9.cell? ⟨w.heap.size, 3, none⟩ = some (.int .i64 0) := tz.cell 3
          have q4 : V9.cell? ⟨w.heap.size, 4, none⟩ = some (.int .i64 0) := tz.cell 4
          have q5 : V9.cell? ⟨w.heap.size, 5, none⟩ = some (.string ⟨#[]⟩) := tz.cell 5
          have q6 : V9.cell? ⟨w.heap.size, 6, none⟩ = some (.string ⟨#[]⟩) := tz.cell 6
          have q7 : V9.cell? ⟨w.heap.size, 7, none⟩ = some (.string ⟨#[]⟩) := tz.cell 7
          clear hV
          clear c0 g0 c1 g1 c2 g2 c3 g3 c4 g4 c5 g5 c6 g6 c7 g7
          refine bodyPost_ret (v := .tuple #[.agg #[.int .i64 0, .int .i64 0, .int .i64 0, .int .i64 0, .int .i64 0, .string ⟨#[]⟩, .string ⟨#[]⟩, .string ⟨#[]⟩], .string ⟨#[]⟩, .int .i64 e4]) (by simp [results, Try.results22, go_sem, q0, q1, q2, q3, q4, q5, q6, q7]) rfl ⟨by rw [HE.out]; rfl, hz⟩
      · have HE := Lib.hid (HQ3.out.trans (thenP_no (r := (tb, s3, e3)) he))
        have hne : (e3 == 0) = false := by simpa using he
        have hne2 : (e3 != 0) = true := by simpa using he
        have c0 : w3.cell? ⟨w.heap.size, 0, none⟩ = some (.int .i64 0) := HM3.out.cell 0
        have g0 := HM3.out.free 0
        have c1 : w3.cell? ⟨w.heap.size, 1, none⟩ = some (.int .i64 0) := HM3.out.cell 1
        have g1 := HM3.out.free 1
        have c2 : w3.cell? ⟨w.heap.size, 2, none⟩ = some (.int .i64 0) := HM3.out.cell 2
        have g2 := HM3.out.free 2
        have c3 : w3.cell? ⟨w.heap.size, 3, none⟩ = some (.int .i64 0) := HM3.out.cell 3
        have g3 := HM3.out.free 3
        have c4 : w3.cell? ⟨w.heap.size, 4, none⟩ = some (.int .i64 0) := HM3.out.cell 4
        have g4 := HM3.out.free 4
        have c5 : w3.cell? ⟨w.heap.size, 5, none⟩ = some (.string ⟨#[]⟩) := HM3.out.cell 5
        have g5 := HM3.out.free 5
        have c6 : w3.cell? ⟨w.heap.size, 6, none⟩ = some (.string ⟨#[]⟩) := HM3.out.cell 6
        have g6 := HM3.out.free 6
        have c7 : w3.cell? ⟨w.heap.size, 7, none⟩ = some (.string ⟨#[]⟩) := HM3.out.cell 7
        have g7 := HM3.out.free 7
        go_wp2_with fail
        obtain ⟨V9, hV⟩ : ∃ V, V = ((((((((w3.setCell ⟨w.heap.size, 0, none⟩ (.int .i64 0)).setCell ⟨w.heap.size, 1, none⟩ (.int .i64 0)).setCell ⟨w.heap.size, 2, none⟩ (.int .i64 0)).setCell ⟨w.heap.size, 3, none⟩ (.int .i64 0)).setCell ⟨w.heap.size, 4, none⟩ (.int .i64 0)).setCell ⟨w.heap.size, 5, none⟩ (.string ⟨#[]⟩)).setCell ⟨w.heap.size, 6, none⟩ (.string ⟨#[]⟩)).setCell ⟨w.heap.size, 7, none⟩ (.string ⟨#[]⟩)) := ⟨_, rfl⟩
        rw [← hV]
        replace hV : V9 = set8 w3 w.heap.size (.int .i64 0) (.int .i64 0) (.int .i64 0) (.int .i64 0) (.int .i64 0) (.string ⟨#[]⟩) (.string ⟨#[]⟩) (.string ⟨#[]⟩) := hV
        have tz : TBox V9 w.heap.size 23 #[.int .i64 0, .int .i64 0, .int .i64 0, .int .i64 0, .int .i64 0, .string ⟨#[]⟩, .string ⟨#[]⟩, .string ⟨#[]⟩] := by rw [hV]; exact set8_box HM3.out (.int .i64 0) (.int .i64 0) (.int .i64 0) (.int .i64 0) (.int .i64 0) (.string ⟨#[]⟩) (.string ⟨#[]⟩) (.string ⟨#[]⟩)
        have hz : Below w.heap.size w V9 := by rw [hV]; exact set8_below BW3.out (Nat.le_refl _) (.int .i64 0) (.int .i64 0) (.int .i64 0) (.int .i64 0) (.int .i64 0) (.string ⟨#[]⟩) (.string ⟨#[]⟩) (.string ⟨#[]⟩)
        have q0 : V9.cell? ⟨w.heap.size, 0, none⟩ = some (.int .i64 0) := tz.cell 0
        have q1 : V9.cell? ⟨w.heap.size, 1, none⟩ = some (.int .i64 0) := tz.cell 1
        have q2 : V9.cell? ⟨w.heap.size, 2, none⟩ = some (.int .i64 0) := tz.cell 2
        have q3 : V9.cell? ⟨w.heap.size, 3, none⟩ = some (.int .i64 0) := tz.cell 3
        have q4 : V9.cell? ⟨w.heap.size, 4, none⟩ = some (.int .i64 0) := tz.cell 4
        have q5 : V9.cell? ⟨w.heap.size, 5, none⟩ = some (.string ⟨#[]⟩) := tz.cell 5
        have q6 : V9.cell? ⟨w.heap.size, 6, none⟩ = some (.string ⟨#[]⟩) := tz.cell 6
        have q7 : V9.cell? ⟨w.heap.size, 7, none⟩ = some (.string ⟨#[]⟩) := tz.cell 7
        clear hV
        clear c0 g0 c1 g1 c2 g2 c3 g3 c4 g4 c5 g5 c6 g6 c7 g7
        refine bodyPost_ret (v := .tuple #[.agg #[.int .i64 0, .int .i64 0, .int .i64 0, .int .i64 0, .int .i64 0, .string ⟨#[]⟩, .string ⟨#[]⟩, .string ⟨#[]⟩], .string ⟨#[]⟩, .int .i64 e3]) (by simp [results, Try.results22, go_sem, q0, q1, q2, q3, q4, q5, q6, q7]) rfl ⟨by rw [HE.out]; rfl, hz⟩
    · have HE := Lib.hid (HQ2.out.trans (thenP_no (r := (ta, s2, e2)) he))
      have hne : (e2 == 0) = false := by simpa using he
      have hne2 : (e2 != 0) = true := by simpa using he
      have c0 : w2.cell? ⟨w.heap.size, 0, none⟩ = some (.int .i64 0) := HM2.out.cell 0
      have g0 := HM2.out.free 0
      have c1 : w2.cell? ⟨w.heap.size, 1, none⟩ = some (.int .i64 0) := HM2.out.cell 1
      have g1 := HM2.out.free 1
      have c2 : w2.cell? ⟨w.heap.size, 2, none⟩ = some (.int .i64 0) := HM2.out.cell 2
      have g2 := HM2.out.free 2
      have c3 : w2.cell? ⟨w.heap.size, 3, none⟩ = some (.int .i64 0) := HM2.out.cell 3
      have g3 := HM2.out.free 3
      have c4 : w2.cell? ⟨w.heap.size, 4, none⟩ = some (.int .i64 0) := HM2.out.cell 4
      have g4 := HM2.out.free 4
      have c5 : w2.cell? ⟨w.heap.size, 5, none⟩ = some (.string ⟨#[]⟩) := HM2.out.cell 5
      have g5 := HM2.out.free 5
      have c6 : w2.cell? ⟨w.heap.size, 6, none⟩ = some (.string ⟨#[]⟩) := HM2.out.cell 6
      have g6 := HM2.out.free 6
      have c7 : w2.cell? ⟨w.heap.size, 7, none⟩ = some (.string ⟨#[]⟩) := HM2.out.cell 7
      have g7 := HM2.out.free 7
      go_wp2_with fail
      obtain ⟨V9, hV⟩ : ∃ V, V = ((((((((w2.setCell ⟨w.heap.size, 0, none⟩ (.int .i64 0)).setCell ⟨w.heap.size, 1, none⟩ (.int .i64 0)).setCell ⟨w.heap.size, 2, none⟩ (.int .i64 0)).setCell ⟨w.heap.size, 3, none⟩ (.int .i64 0)).setCell ⟨w.heap.size, 4, none⟩ (.int .i64 0)).setCell ⟨w.heap.size, 5, none⟩ (.string ⟨#[]⟩)).setCell ⟨w.heap.size, 6, none⟩ (.string ⟨#[]⟩)).setCell ⟨w.heap.size, 7, none⟩ (.string ⟨#[]⟩)) := ⟨_, rfl⟩
      rw [← hV]
      replace hV : V9 = set8 w2 w.heap.size (.int .i64 0) (.int .i64 0) (.int .i64 0) (.int .i64 0) (.int .i64 0) (.string ⟨#[]⟩) (.string ⟨#[]⟩) (.string ⟨#[]⟩) := hV
      have tz : TBox V9 w.heap.size 23 #[.int .i64 0, .int .i64 0, .int .i64 0, .int .i64 0, .int .i64 0, .string ⟨#[]⟩, .string ⟨#[]⟩, .string ⟨#[]⟩] := by rw [hV]; exact set8_box HM2.out (.int .i64 0) (.int .i64 0) (.int .i64 0) (.int .i64 0) (.int .i64 0) (.string ⟨#[]⟩) (.string ⟨#[]⟩) (.string ⟨#[]⟩)
      have hz : Below w.heap.size w V9 := by rw [hV]; exact set8_below BW2.out (Nat.le_refl _) (.int .i64 0) (.int .i64 0) (.int .i64 0) (.int .i64 0) (.int .i64 0) (.string ⟨#[]⟩) (.string ⟨#[]⟩) (.string ⟨#[]⟩)
      have q0 : V9.cell? ⟨w.heap.size, 0, none⟩ = some (.int .i64 0) := tz.cell 0
      have q1 : V9.cell? ⟨w.heap.size, 1, none⟩ = some (.int .i64 0) := tz.cell 1
      have q2 : V9.cell? ⟨w.heap.size, 2, none⟩ = some (.int .i64 0) := tz.cell 2
      have q3 : V9.cell? ⟨w.heap.size, 3, none⟩ = some (.int .i64 0) := tz.cell 3
      have q4 : V9.cell? ⟨w.heap.size, 4, none⟩ = some (.int .i64 0) := tz.cell 4
      have q5 : V9.cell? ⟨w.heap.size, 5, none⟩ = some (.string ⟨#[]⟩) := tz.cell 5
      have q6 : V9.cell? ⟨w.heap.size, 6, none⟩ = some (.string ⟨#[]⟩) := tz.cell 6
      have q7 : V9.cell? ⟨w.heap.size, 7, none⟩ = some (.string ⟨#[]⟩) := tz.cell 7
      clear hV
      clear c0 g0 c1 g1 c2 g2 c3 g3 c4 g4 c5 g5 c6 g6 c7 g7
      refine bodyPost_ret (v := .tuple #[.agg #[.int .i64 0, .int .i64 0, .int .i64 0, .int .i64 0, .int .i64 0, .string ⟨#[]⟩, .string ⟨#[]⟩, .string ⟨#[]⟩], .string ⟨#[]⟩, .int .i64 e2]) (by simp [results, Try.results22, go_sem, q0, q1, q2, q3, q4, q5, q6, q7]) rfl ⟨by rw [HE.out]; rfl, hz⟩
  · have HE := Lib.hid (HQ.out.trans (thenP_no (r := (ns, s1, e1)) he))
    have hne : (e1 == 0) = false := by simpa using he
    have hne2 : (e1 != 0) = true := by simpa using he
    have c0 : w1.cell? ⟨w.heap.size, 0, none⟩ = some (.int .i64 0) := HM1.out.cell 0
    have g0 := HM1.out.free 0
    have c1 : w1.cell? ⟨w.heap.size, 1, none⟩ = some (.int .i64 0) := HM1.out.cell 1
    have g1 := HM1.out.free 1
    have c2 : w1.cell? ⟨w.heap.size, 2, none⟩ = some (.int .i64 0) := HM1.out.cell 2
    have g2 := HM1.out.free 2
    have c3 : w1.cell? ⟨w.heap.size, 3, none⟩ = some (.int .i64 0) := HM1.out.cell 3
    have g3 := HM1.out.free 3
    have c4 : w1.cell? ⟨w.heap.size, 4, none⟩ = some (.int .i64 0) := HM1.out.cell 4
    have g4 := HM1.out.free 4
    have c5 : w1.cell? ⟨w.heap.size, 5, none⟩ = some (.string ⟨#[]⟩) := HM1.out.cell 5
    have g5 := HM1.out.free 5
    have c6 : w1.cell? ⟨w.heap.size, 6, none⟩ = some (.string ⟨#[]⟩) := HM1.out.cell 6
    have g6 := HM1.out.free 6
    have c7 : w1.cell? ⟨w.heap.size, 7, none⟩ = some (.string ⟨#[]⟩) := HM1.out.cell 7
    have g7 := HM1.out.free 7
    go_wp2_with fail
    obtain ⟨V9, hV⟩ : ∃ V, V = ((((((((w1.setCell ⟨w.heap.size, 0, none⟩ (.int .i64 0)).setCell ⟨w.heap.size, 1, none⟩ (.int .i64 0)).setCell ⟨w.heap.size, 2, none⟩ (.int .i64 0)).setCell ⟨w.heap.size, 3, none⟩ (.int .i64 0)).setCell ⟨w.heap.size, 4, none⟩ (.int .i64 0)).setCell ⟨w.heap.size, 5, none⟩ (.string ⟨#[]⟩)).setCell ⟨w.heap.size, 6, none⟩ (.string ⟨#[]⟩)).setCell ⟨w.heap.size, 7, none⟩ (.string ⟨#[]⟩)) := ⟨_, rfl⟩
    rw [← hV]
    replace hV : V9 = set8 w1 w.heap.size (.int .i64 0) (.int .i64 0) (.int .i64 0) (.int .i64 0) (.int .i64 0) (.string ⟨#[]⟩) (.string ⟨#[]⟩) (.string ⟨#[]⟩) := hV
    have tz : TBox V9 w.heap.size 23 #[.int .i64 0, .int .i64 0, .int .i64 0, .int .i64 0, .int .i64 0, .string ⟨#[]⟩, .string ⟨#[]⟩, .string ⟨#[]⟩] := by rw [hV]; exact set8_box HM1.out (.int .i64 0) (.int .i64 0) (.int .i64 0) (.int .i64 0) (.int .i64 0) (.string ⟨#[]⟩) (.string ⟨#[]⟩) (.string ⟨#[]⟩)
    have hz : Below w.heap.size w V9 := by rw [hV]; exact set8_below BW1.out (Nat.le_refl _) (.int .i64 0) (.int .i64 0) (.int .i64 0) (.int .i64 0) (.int .i64 0) (.string ⟨#[]⟩) (.string ⟨#[]⟩) (.string ⟨#[]⟩)
    have q0 : V9.cell? ⟨w.heap.size, 0, none⟩ = some (.int .i64 0) := tz.cell 0
    have q1 : V9.cell? ⟨w.heap.size, 1, none⟩ = some (.int .i64 0) := tz.cell 1
    have q2 : V9.cell? ⟨w.heap.size, 2, none⟩ = some (.int .i64 0) := tz.cell 2
    have q3 : V9.cell? ⟨w.heap.size, 3, none⟩ = some (.int .i64 0) := tz.cell 3
    have q4 : V9.cell? ⟨w.heap.size, 4, none⟩ = some (.int .i64 0) := tz.cell 4
    have q5 : V9.cell? ⟨w.heap.size, 5, none⟩ = some (.string ⟨#[]⟩) := tz.cell 5
    have q6 : V9.cell? ⟨w.heap.size, 6, none⟩ = some (.string ⟨#[]⟩) := tz.cell 6
    have q7 : V9.cell? ⟨w.heap.size, 7, none⟩ = some (.string ⟨#[]⟩) := tz.cell 7
    clear hV
    clear c0 g0 c1 g1 c2 g2 c3 g3 c4 g4 c5 g5 c6 g6 c7 g7
    refine bodyPost_ret (v := .tuple #[.agg #[.int .i64 0, .int .i64 0, .int .i64 0, .int .i64 0, .int .i64 0, .string ⟨#[]⟩, .string ⟨#[]⟩, .string ⟨#[]⟩], .string ⟨#[]⟩, .int .i64 e1]) (by simp [results, Try.results22, go_sem, q0, q1, q2, q3, q4, q5, q6, q7]) rfl ⟨by rw [HE.out]; rfl, hz⟩

set_option maxRecDepth 100000 in
set_option maxHeartbeats 16000000 in
theorem ref15_TakeMsg (l : List UInt8) (w : World) (hl : l.length ≤ 2147483648) :
    Calls Try.prog 24 #[.string ⟨l.toArray⟩] w fun e w' => e = .returned (.tuple #[msgV (takeMsg l).1, .int .i64 (takeMsg l).2]) ∧ Below w.heap.size w w' := by
  have HQ := Lib.hid (takeMsg_begun l)
  have hn := begunT_len 109 l
  have HN := Lib.hid (fun W => ref15_begun l 109 W (by omega))
  obtain ⟨q, hq⟩ : ∃ q, q = takeMsg l := ⟨_, rfl⟩
  rw [← hq] at HQ ⊢
  clear hq
  generalize begunT 109 l = x at *
  obtain ⟨s1, e1⟩ := x
  simp only at HN hn HQ
  have HQ1 := HQ
  have HN2 := Lib.hid (fun W => ref15_numbers s1 6 W (by omega) (by decide))
  unfold RetNums at HN2
  have hn2 := numsT_len 6 s1
  obtain ⟨w0, hW⟩ : ∃ W, W = w.alloc (.cells #[.int .i64 0, .int .i64 0, .int .i64 0, .int .i64 0, .int .i64 0, .int .i64 0, .int .i64 0, .int .i64 0, .int .i64 0, .int .i64 0, .int .i64 0, .string ⟨#[]⟩, .string ⟨#[]⟩, .string ⟨#[]⟩] 25) := ⟨_, rfl⟩
  have hbn : Below w.heap.size w w0 := by rw [hW]; exact (Below.refl _ _).alloc (Nat.le_refl _) _
  have HM0 := Lib.hid (show TBox w0 w.heap.size 25 #[.int .i64 0, .int .i64 0, .int .i64 0, .int .i64 0, .int .i64 0, .int .i64 0, .int .i64 0, .int .i64 0, .int .i64 0, .int .i64 0, .int .i64 0, .string ⟨#[]⟩, .string ⟨#[]⟩, .string ⟨#[]⟩] from by rw [hW]; exact TBox.new _ _ _)
  have BW0 := Lib.hid hbn
  have HW := Lib.hid hW
  clear hW hbn
  go_enter Try.func24, Try.ntmps24
  go_wp2_with fail
  rw [← HW.out]
  refine (HN.out w0).mono ?_
  rintro e w1 ⟨rfl, hb⟩
  have HM1 := Lib.hid (HM0.out.below hb)
  have BW1 := Lib.hid (below_trans BW0.out hb BW0.out.size)
  have hlt0 : w.heap.size < w0.heap.size := HM0.out.lt
  have hs01 := hb.size
  clear hb
  by_cases he : e1 = 0
  · subst he
    have HQ2 := Lib.hid (show q = endMsg s1 from by rw [HQ.out, if_neg (by simp)])
    unfold endMsg at HQ2
    generalize numsT 6 s1 = x at *
    obtain ⟨ns, s2, e2⟩ := x
    simp only at HN2 hn2 HQ2
    go_wp2_with fail
    refine (HN2.out w1).mono ?_
    rintro e w2 ⟨A, cp, rfl, ho, hb⟩
    have HM2 := Lib.hid (HM1.out.below hb)
    have BW2 := Lib.hid (below_trans BW1.out hb BW1.out.size)
    have HO2 := Lib.hid ho
    have hs12 := hb.size
    clear ho hb
    by_cases he : e2 = 0
    · subst he
      obtain ⟨q1, q2, q3, q4, q5, q6, rfl⟩ := list6 (hn2.2.2.1 rfl)
      have HQ3' := Lib.hid (HQ2.out.trans (if_neg (by simp)))
      have HT3 := Lib.hid (fun W => ref15_TakeCall s2 W (by omega))
      have hcl := takeCall_bds s2
      generalize takeCall s2 = x at *
      obtain ⟨⟨k1, k2, k3, k4, k5, t1, t2, t3⟩, rest, e3⟩ := x
      unfold callV at HT3
      simp only [List.getD_cons_zero, List.getD_cons_succ] at HT3 hcl HQ3'
      have HQ3 := HQ3'
      go_wp2_with fail
      refine (HT3.out _).mono ?_
      rintro e w3 ⟨rfl, hb⟩
      have HM3 := Lib.hid (HM2.out.below hb)
      have BW3 := Lib.hid (below_trans BW2.out hb BW2.out.size)
      have hb23 := Lib.hid hb
      clear hb
      obtain ⟨w4, hW4⟩ : ∃ W, W = w3.alloc (.cells #[.int .i64 k1, .int .i64 k2, .int .i64 k3, .int .i64 k4, .int .i64 k5, .string ⟨t1.toArray⟩, .string ⟨t2.toArray⟩, .string ⟨t3.toArray⟩] 23) := ⟨_, rfl⟩
      have hbn : Below w3.heap.size w3 w4 := by rw [hW4]; exact (Below.refl _ _).alloc (Nat.le_refl _) _
      have HC4 := Lib.hid (show TBox w4 w3.heap.size 23 #[.int .i64 k1, .int .i64 k2, .int .i64 k3, .int .i64 k4, .int .i64 k5, .string ⟨t1.toArray⟩, .string ⟨t2.toArray⟩, .string ⟨t3.toArray⟩] from by rw [hW4]; exact TBox.new _ _ _)
      have HM4 := Lib.hid (HM3.out.below hbn)
      have BW4 := Lib.hid (below_trans BW3.out hbn BW3.out.size)
      have hb34 := Lib.hid hbn
      have HW4 := Lib.hid hW4
      have hs34 := hbn.size
      have hs3 := HM3.out.lt
      clear hW4 hbn
      by_cases he : e3 = 0
      · subst he
        cases rest with
        | nil =>
          have HE := Lib.hid (show q = (⟨q1, q2, q3, q4, q5, q6, ⟨k1, k2, k3, k4, k5, t1, t2, t3⟩⟩, 0) from by rw [HQ3.out]; simp)
          have ho4 := owns_below (owns_below HO2.out hb23.out) hb34.out
          obtain ⟨g', cap, hsl, hg1, hg2, hg3, hcg⟩ := owns_open ho4 (by simp)
          simp only [Value.slice.injEq] at hsl
          obtain ⟨rfl, -, rfl⟩ := hsl
          have HC := Lib.hid hcg
          have hgm : g' ≠ w.heap.size := by omega
          have hcm : w3.heap.size ≠ w.heap.size := by omega
          clear ho4 hcg
          have ltm := HM3.out.lt
          have c0 : w3.cell? ⟨w.heap.size, 0, none⟩ = some (.int .i64 0) := HM3.out.cell 0
          have g0 := HM3.out.free 0
          have c1 : w3.cell? ⟨w.heap.size, 1, none⟩ = some (.int .i64 0) := HM3.out.cell 1
          have g1 := HM3.out.free 1
          have c2 : w3.cell? ⟨w.heap.size, 2, none⟩ = some (.int .i64 0) := HM3.out.cell 2
          have g2 := HM3.out.free 2
          have c3 : w3.cell? ⟨w.heap.size, 3, none⟩ = some (.int .i64 0) := HM3.out.cell 3
          have g3 := HM3.out.free 3
          have c4 : w3.cell? ⟨w.heap.size, 4, none⟩ = some (.int .i64 0) := HM3.out.cell 4
          have g4 := HM3.out.free 4
          have c5 : w3.cell? ⟨w.heap.size, 5, none⟩ = some (.int .i64 0) := HM3.out.cell 5
          have g5 := HM3.out.free 5
          have c6 : w3.cell? ⟨w.heap.size, 6, none⟩ = some (.int .i64 0) := HM3.out.cell 6
          have g6 := HM3.out.free 6
          have c7 : w3.cell? ⟨w.heap.size, 7, none⟩ = some (.int .i64 0) := HM3.out.cell 7
          have g7 := HM3.out.free 7
          have c8 : w3.cell? ⟨w.heap.size, 8, none⟩ = some (.int .i64 0) := HM3.out.cell 8
          have g8 := HM3.out.free 8
          have c9 : w3.cell? ⟨w.heap.size, 9, none⟩ = some (.int .i64 0) := HM3.out.cell 9
          have g9 := HM3.out.free 9
          have c10 : w3.cell? ⟨w.heap.size, 10, none⟩ = some (.int .i64 0) := HM3.out.cell 10
          have g10 := HM3.out.free 10
          have c11 : w3.cell? ⟨w.heap.size, 11, none⟩ = some (.string ⟨#[]⟩) := HM3.out.cell 11
          have g11 := HM3.out.free 11
          have c12 : w3.cell? ⟨w.heap.size, 12, none⟩ = some (.string ⟨#[]⟩) := HM3.out.cell 12
          have g12 := HM3.out.free 12
          have c13 : w3.cell? ⟨w.heap.size, 13, none⟩ = some (.string ⟨#[]⟩) := HM3.out.cell 13
          have g13 := HM3.out.free 13
          go_wp2_with fail
          rw [← HW4.out]
          clear c0 g0 c1 g1 c2 g2 c3 g3 c4 g4 c5 g5 c6 g6 c7 g7 c8 g8 c9 g9 c10 g10 c11 g11 c12 g12 c13 g13
          refine wp_region_held_drew (S := OpenW w4 w.heap.size) (by kernel_rfl) (OpenW.drew _ _) (fun hHeld => ?_)
          obtain ⟨wd, hWD⟩ : ∃ V, V = w4.drew := ⟨_, rfl⟩
          rw [← hWD] at hHeld ⊢
          have HMd := Lib.hid (show TBox wd w.heap.size 25 #[.int .i64 0, .int .i64 0, .int .i64 0, .int .i64 0, .int .i64 0, .int .i64 0, .int .i64 0, .int .i64 0, .int .i64 0, .int .i64 0, .int .i64 0, .string ⟨#[]⟩, .string ⟨#[]⟩, .string ⟨#[]⟩] from by rw [hWD]; exact HM4.out)
          have BWd := Lib.hid (show Below w.heap.size w wd from by rw [hWD]; exact below_dn BW4.out 1)
          clear hWD
          refine wpAnyH_take (i := 0) (v := ?_) rfl (by kernel_rfl) (by kernel_rfl) (by kernel_rfl) (fun _ _ _ h => h) (Or.inl ⟨by rfl, ?_⟩) (by assumption) ?_
          rotate_left
          · intro X hSw
            go_simp
            try with_reducible rfl
          rotate_left
          try simp only [Act.put, List.setIfInBounds_toArray, List.set_cons_zero, List.set_cons_succ, List.getElem_toArray, List.getElem_cons_zero, List.getElem_cons_succ]
          refine wpAnyH_take (i := 1) (v := ?_) rfl (by kernel_rfl) (by kernel_rfl) (by kernel_rfl) (fun _ _ _ h => h) (Or.inl ⟨by rfl, ?_⟩) (by assumption) ?_
          rotate_left
          · intro X hSw
            go_simp
            try with_reducible rfl
          rotate_left
          try simp only [Act.put, List.setIfInBounds_toArray, List.set_cons_zero, List.set_cons_succ, List.getElem_toArray, List.getElem_cons_zero, List.getElem_cons_succ]
          refine wpAnyH_take (i := 2) (v := ?_) rfl (by kernel_rfl) (by kernel_rfl) (by kernel_rfl) (fun _ _ _ h => h) (Or.inl ⟨by rfl, ?_⟩) (by assumption) ?_
          rotate_left
          · intro X hSw
            have hc : X.cell? ⟨g', 0, none⟩ = some (.int .i64 q1) := hSw.cell (HC.out 0 _ rfl) hgm
            go_simp
            try with_reducible rfl
          rotate_left
          try simp only [Act.put, List.setIfInBounds_toArray, List.set_cons_zero, List.set_cons_succ, List.getElem_toArray, List.getElem_cons_zero, List.getElem_cons_succ]
          refine wpAnyH_take (i := 3) (v := ?_) rfl (by kernel_rfl) (by kernel_rfl) (by kernel_rfl) (fun _ _ _ h => h) (Or.inl ⟨by rfl, ?_⟩) (by assumption) ?_
          rotate_left
          · intro X hSw
            go_simp
            try with_reducible rfl
          rotate_left
          try simp only [Act.put, List.setIfInBounds_toArray, List.set_cons_zero, List.set_cons_succ, List.getElem_toArray, List.getElem_cons_zero, List.getElem_cons_succ]
          refine wpAnyH_take (i := 4) (v := ?_) rfl (by kernel_rfl) (by kernel_rfl) (by kernel_rfl) (fun _ _ _ h => h) (Or.inl ⟨by rfl, ?_⟩) (by assumption) ?_
          rotate_left
          · intro X hSw
            go_simp
            try with_reducible rfl
          rotate_left
          try simp only [Act.put, List.setIfInBounds_toArray, List.set_cons_zero, List.set_cons_succ, List.getElem_toArray, List.getElem_cons_zero, List.getElem_cons_succ]
          refine wpAnyH_take (i := 5) (v := ?_) rfl (by kernel_rfl) (by kernel_rfl) (by kernel_rfl) (fun _ _ _ h => h) (Or.inl ⟨by rfl, ?_⟩) (by assumption) ?_
          rotate_left
          · intro X hSw
            have hc : X.cell? ⟨g', 1, none⟩ = some (.int .i64 q2) := hSw.cell (HC.out 1 _ rfl) hgm
            go_simp
            try with_reducible rfl
          rotate_left
          try simp only [Act.put, List.setIfInBounds_toArray, List.set_cons_zero, List.set_cons_succ, List.getElem_toArray, List.getElem_cons_zero, List.getElem_cons_succ]
          refine wpAnyH_take (i := 6) (v := ?_) rfl (by kernel_rfl) (by kernel_rfl) (by kernel_rfl) (fun _ _ _ h => h) (Or.inl ⟨by rfl, ?_⟩) (by assumption) ?_
          rotate_left
          · intro X hSw
            go_simp
            try with_reducible rfl
          rotate_left
          try simp only [Act.put, List.setIfInBounds_toArray, List.set_cons_zero, List.set_cons_succ, List.getElem_toArray, List.getElem_cons_zero, List.getElem_cons_succ]
          refine wpAnyH_take (i := 7) (v := ?_) rfl (by kernel_rfl) (by kernel_rfl) (by kernel_rfl) (fun _ _ _ h => h) (Or.inl ⟨by rfl, ?_⟩) (by assumption) ?_
          rotate_left
          · intro X hSw
            go_simp
            try with_reducible rfl
          rotate_left
          try simp only [Act.put, List.setIfInBounds_toArray, List.set_cons_zero, List.set_cons_succ, List.getElem_toArray, List.getElem_cons_zero, List.getElem_cons_succ]
          refine wpAnyH_take (i := 8) (v := ?_) rfl (by kernel_rfl) (by kernel_rfl) (by kernel_rfl) (fun _ _ _ h => h) (Or.inl ⟨by rfl, ?_⟩) (by assumption) ?_
          rotate_left
          · intro X hSw
            have hc : X.cell? ⟨g', 2, none⟩ = some (.int .i64 q3) := hSw.cell (HC.out 2 _ rfl) hgm
            go_simp
            try with_reducible rfl
          rotate_left
          try simp only [Act.put, List.setIfInBounds_toArray, List.set_cons_zero, List.set_cons_succ, List.getElem_toArray, List.getElem_cons_zero, List.getElem_cons_succ]
          refine wpAnyH_take (i := 9) (v := ?_) rfl (by kernel_rfl) (by kernel_rfl) (by kernel_rfl) (fun _ _ _ h => h) (Or.inl ⟨by rfl, ?_⟩) (by assumption) ?_
          rotate_left
          · intro X hSw
            go_simp
            try with_reducible rfl
          rotate_left
          try simp only [Act.put, List.setIfInBounds_toArray, List.set_cons_zero, List.set_cons_succ, List.getElem_toArray, List.getElem_cons_zero, List.getElem_cons_succ]
          refine wpAnyH_take (i := 10) (v := ?_) rfl (by kernel_rfl) (by kernel_rfl) (by kernel_rfl) (fun _ _ _ h => h) (Or.inl ⟨by rfl, ?_⟩) (by assumption) ?_
          rotate_left
          · intro X hSw
            go_simp
            try with_reducible rfl
          rotate_left
          try simp only [Act.put, List.setIfInBounds_toArray, List.set_cons_zero, List.set_cons_succ, List.getElem_toArray, List.getElem_cons_zero, List.getElem_cons_succ]
          refine wpAnyH_take (i := 11) (v := ?_) rfl (by kernel_rfl) (by kernel_rfl) (by kernel_rfl) (fun _ _ _ h => h) (Or.inl ⟨by rfl, ?_⟩) (by assumption) ?_
          rotate_left
          · intro X hSw
            have hc : X.cell? ⟨g', 3, none⟩ = some (.int .i64 q4) := hSw.cell (HC.out 3 _ rfl) hgm
            go_simp
            try with_reducible rfl
          rotate_left
          try simp only [Act.put, List.setIfInBounds_toArray, List.set_cons_zero, List.set_cons_succ, List.getElem_toArray, List.getElem_cons_zero, List.getElem_cons_succ]
          refine wpAnyH_take (i := 12) (v := ?_) rfl (by kernel_rfl) (by kernel_rfl) (by kernel_rfl) (fun _ _ _ h => h) (Or.inl ⟨by rfl, ?_⟩) (by assumption) ?_
          rotate_left
          · intro X hSw
            go_simp
            try with_reducible rfl
          rotate_left
          try simp only [Act.put, List.setIfInBounds_toArray, List.set_cons_zero, List.set_cons_succ, List.getElem_toArray, List.getElem_cons_zero, List.getElem_cons_succ]
          refine wpAnyH_take (i := 13) (v := ?_) rfl (by kernel_rfl) (by kernel_rfl) (by kernel_rfl) (fun _ _ _ h => h) (Or.inl ⟨by rfl, ?_⟩) (by assumption) ?_
          rotate_left
          · intro X hSw
            go_simp
            try with_reducible rfl
          rotate_left
          try simp only [Act.put, List.setIfInBounds_toArray, List.set_cons_zero, List.set_cons_succ, List.getElem_toArray, List.getElem_cons_zero, List.getElem_cons_succ]
          refine wpAnyH_take (i := 14) (v := ?_) rfl (by kernel_rfl) (by kernel_rfl) (by kernel_rfl) (fun _ _ _ h => h) (Or.inl ⟨by rfl, ?_⟩) (by assumption) ?_
          rotate_left
          · intro X hSw
            have hc : X.cell? ⟨g', 4, none⟩ = some (.int .i64 q5) := hSw.cell (HC.out 4 _ rfl) hgm
            go_simp
            try with_reducible rfl
          rotate_left
          try simp only [Act.put, List.setIfInBounds_toArray, List.set_cons_zero, List.set_cons_succ, List.getElem_toArray, List.getElem_cons_zero, List.getElem_cons_succ]
          refine wpAnyH_take (i := 15) (v := ?_) rfl (by kernel_rfl) (by kernel_rfl) (by kernel_rfl) (fun _ _ _ h => h) (Or.inl ⟨by rfl, ?_⟩) (by assumption) ?_
          rotate_left
          · intro X hSw
            go_simp
            try with_reducible rfl
          rotate_left
          try simp only [Act.put, List.setIfInBounds_toArray, List.set_cons_zero, List.set_cons_succ, List.getElem_toArray, List.getElem_cons_zero, List.getElem_cons_succ]
          refine wpAnyH_take (i := 16) (v := ?_) rfl (by kernel_rfl) (by kernel_rfl) (by kernel_rfl) (fun _ _ _ h => h) (Or.inl ⟨by rfl, ?_⟩) (by assumption) ?_
          rotate_left
          · intro X hSw
            go_simp
            try with_reducible rfl
          rotate_left
          try simp only [Act.put, List.setIfInBounds_toArray, List.set_cons_zero, List.set_cons_succ, List.getElem_toArray, List.getElem_cons_zero, List.getElem_cons_succ]
          refine wpAnyH_take (i := 17) (v := ?_) rfl (by kernel_rfl) (by kernel_rfl) (by kernel_rfl) (fun _ _ _ h => h) (Or.inl ⟨by rfl, ?_⟩) (by assumption) ?_
          rotate_left
          · intro X hSw
            have hc : X.cell? ⟨g', 5, none⟩ = some (.int .i64 q6) := hSw.cell (HC.out 5 _ rfl) hgm
            go_simp
            try with_reducible rfl
          rotate_left
          try simp only [Act.put, List.setIfInBounds_toArray, List.set_cons_zero, List.set_cons_succ, List.getElem_toArray, List.getElem_cons_zero, List.getElem_cons_succ]
          refine wpAnyH_take (i := 18) (v := ?_) rfl (by kernel_rfl) (by kernel_rfl) (by kernel_rfl) (fun _ _ _ h => h) (Or.inl ⟨by rfl, ?_⟩) (by assumption) ?_
          rotate_left
          · intro X hSw
            have hc0 : X.cell? ⟨w3.heap.size, 0, none⟩ = some (.int .i64 k1) := hSw.cell (HC4.out.cell 0) hcm
            have hc1 : X.cell? ⟨w3.heap.size, 1, none⟩ = some (.int .i64 k2) := hSw.cell (HC4.out.cell 1) hcm
            have hc2 : X.cell? ⟨w3.heap.size, 2, none⟩ = some (.int .i64 k3) := hSw.cell (HC4.out.cell 2) hcm
            have hc3 : X.cell? ⟨w3.heap.size, 3, none⟩ = some (.int .i64 k4) := hSw.cell (HC4.out.cell 3) hcm
            have hc4 : X.cell? ⟨w3.heap.size, 4, none⟩ = some (.int .i64 k5) := hSw.cell (HC4.out.cell 4) hcm
            have hc5 : X.cell? ⟨w3.heap.size, 5, none⟩ = some (.string ⟨t1.toArray⟩) := hSw.cell (HC4.out.cell 5) hcm
            have hc6 : X.cell? ⟨w3.heap.size, 6, none⟩ = some (.string ⟨t2.toArray⟩) := hSw.cell (HC4.out.cell 6) hcm
            have hc7 : X.cell? ⟨w3.heap.size, 7, none⟩ = some (.string ⟨t3.toArray⟩) := hSw.cell (HC4.out.cell 7) hcm
            go_simp
            try with_reducible rfl
          rotate_left
          try simp only [Act.put, List.setIfInBounds_toArray, List.set_cons_zero, List.set_cons_succ, List.getElem_toArray, List.getElem_cons_zero, List.getElem_cons_succ]
          refine wpAnyH_take (i := 19) (v := ?_) rfl (by kernel_rfl) (by kernel_rfl) (by kernel_rfl) (fun _ _ _ h => h) (Or.inl ⟨by rfl, ?_⟩) (by assumption) ?_
          rotate_left
          · intro X hSw
            go_simp
            try with_reducible rfl
          rotate_left
          try simp only [Act.put, List.setIfInBounds_toArray, List.set_cons_zero, List.set_cons_succ, List.getElem_toArray, List.getElem_cons_zero, List.getElem_cons_succ]
          refine wpAnyH_ready (rs := [20]) (by kernel_rfl) (by simp) ?_
          refine (AllReadyH.cons rfl (fun K hK => ?_) AllReadyH.nil)
          rw [if_pos (by rfl)]
          have c0 : wd.cell? ⟨w.heap.size, 0, none⟩ = some (.int .i64 0) := HMd.out.cell 0
          have g0 := HMd.out.free 0
          have c1 : wd.cell? ⟨w.heap.size, 1, none⟩ = some (.int .i64 0) := HMd.out.cell 1
          have g1 := HMd.out.free 1
          have c2 : wd.cell? ⟨w.heap.size, 2, none⟩ = some (.int .i64 0) := HMd.out.cell 2
          have g2 := HMd.out.free 2
          have c3 : wd.cell? ⟨w.heap.size, 3, none⟩ = some (.int .i64 0) := HMd.out.cell 3
          have g3 := HMd.out.free 3
          have c4 : wd.cell? ⟨w.heap.size, 4, none⟩ = some (.int .i64 0) := HMd.out.cell 4
          have g4 := HMd.out.free 4
          have c5 : wd.cell? ⟨w.heap.size, 5, none⟩ = some (.int .i64 0) := HMd.out.cell 5
          have g5 := HMd.out.free 5
          have c6 : wd.cell? ⟨w.heap.size, 6, none⟩ = some (.int .i64 0) := HMd.out.cell 6
          have g6 := HMd.out.free 6
          have c7 : wd.cell? ⟨w.heap.size, 7, none⟩ = some (.int .i64 0) := HMd.out.cell 7
          have g7 := HMd.out.free 7
          have c8 : wd.cell? ⟨w.heap.size, 8, none⟩ = some (.int .i64 0) := HMd.out.cell 8
          have g8 := HMd.out.free 8
          have c9 : wd.cell? ⟨w.heap.size, 9, none⟩ = some (.int .i64 0) := HMd.out.cell 9
          have g9 := HMd.out.free 9
          have c10 : wd.cell? ⟨w.heap.size, 10, none⟩ = some (.int .i64 0) := HMd.out.cell 10
          have g10 := HMd.out.free 10
          have c11 : wd.cell? ⟨w.heap.size, 11, none⟩ = some (.string ⟨#[]⟩) := HMd.out.cell 11
          have g11 := HMd.out.free 11
          have c12 : wd.cell? ⟨w.heap.size, 12, none⟩ = some (.string ⟨#[]⟩) := HMd.out.cell 12
          have g12 := HMd.out.free 12
          have c13 : wd.cell? ⟨w.heap.size, 13, none⟩ = some (.string ⟨#[]⟩) := HMd.out.cell 13
          have g13 := HMd.out.free 13
          go_wp2_with fail
          obtain ⟨V9, hV⟩ : ∃ V, V = ((((((((((((((wd.setCell ⟨w.heap.size, 0, none⟩ (.int .i64 q1)).setCell ⟨w.heap.size, 1, none⟩ (.int .i64 q2)).setCell ⟨w.heap.size, 2, none⟩ (.int .i64 q3)).setCell ⟨w.heap.size, 3, none⟩ (.int .i64 q4)).setCell ⟨w.heap.size, 4, none⟩ (.int .i64 q5)).setCell ⟨w.heap.size, 5, none⟩ (.int .i64 q6)).setCell ⟨w.heap.size, 6, none⟩ (.int .i64 k1)).setCell ⟨w.heap.size, 7, none⟩ (.int .i64 k2)).setCell ⟨w.heap.size, 8, none⟩ (.int .i64 k3)).setCell ⟨w.heap.size, 9, none⟩ (.int .i64 k4)).setCell ⟨w.heap.size, 10, none⟩ (.int .i64 k5)).setCell ⟨w.heap.size, 11, none⟩ (.string ⟨t1.toArray⟩)).setCell ⟨w.heap.size, 12, none⟩ (.string ⟨t2.toArray⟩)).setCell ⟨w.heap.size, 13, none⟩ (.string ⟨t3.toArray⟩)) := ⟨_, rfl⟩
          rw [← hV]
          replace hV : V9 = set14 wd w.heap.size (.int .i64 q1) (.int .i64 q2) (.int .i64 q3) (.int .i64 q4) (.int .i64 q5) (.int .i64 q6) (.int .i64 k1) (.int .i64 k2) (.int .i64 k3) (.int .i64 k4) (.int .i64 k5) (.string ⟨t1.toArray⟩) (.string ⟨t2.toArray⟩) (.string ⟨t3.toArray⟩) := hV
          have HVV := Lib.hid hV
          have hop : OpenW w4 w.heap.size V9 := by rw [hV]; exact OpenW.put14 hHeld _ _ _ _ _ _ _ _ _ _ _ _ _ _
          clear hV
          clear c0 g0 c1 g1 c2 g2 c3 g3 c4 g4 c5 g5 c6 g6 c7 g7 c8 g8 c9 g9 c10 g10 c11 g11 c12 g12 c13 g13
          refine hK.out _ _ hop (fun _ => ?_)
          clear hK K
          try simp only [Act.put, List.setIfInBounds_toArray, List.set_cons_zero, List.set_cons_succ, List.getElem_toArray, List.getElem_cons_zero, List.getElem_cons_succ]
          refine wpAnyH_take (i := 21) (v := ?_) rfl (by kernel_rfl) (by kernel_rfl) (by kernel_rfl) (fun _ _ _ h => h) (Or.inl ⟨by rfl, ?_⟩) (by assumption) ?_
          rotate_left
          · intro X hSw
            go_simp
            try with_reducible rfl
          rotate_left
          try simp only [Act.put, List.setIfInBounds_toArray, List.set_cons_zero, List.set_cons_succ, List.getElem_toArray, List.getElem_cons_zero, List.getElem_cons_succ]
          refine wpAnyH_done (by kernel_rfl) ?_ _
          have hV := HVV.out
          have tz : TBox V9 w.heap.size 25 #[.int .i64 q1, .int .i64 q2, .int .i64 q3, .int .i64 q4, .int .i64 q5, .int .i64 q6, .int .i64 k1, .int .i64 k2, .int .i64 k3, .int .i64 k4, .int .i64 k5, .string ⟨t1.toArray⟩, .string ⟨t2.toArray⟩, .string ⟨t3.toArray⟩] := by rw [hV]; exact set14_box HMd.out (.int .i64 q1) (.int .i64 q2) (.int .i64 q3) (.int .i64 q4) (.int .i64 q5) (.int .i64 q6) (.int .i64 k1) (.int .i64 k2) (.int .i64 k3) (.int .i64 k4) (.int .i64 k5) (.string ⟨t1.toArray⟩) (.string ⟨t2.toArray⟩) (.string ⟨t3.toArray⟩)
          have hz : Below w.heap.size w V9 := by rw [hV]; exact set14_below BWd.out (Nat.le_refl _) (.int .i64 q1) (.int .i64 q2) (.int .i64 q3) (.int .i64 q4) (.int .i64 q5) (.int .i64 q6) (.int .i64 k1) (.int .i64 k2) (.int .i64 k3) (.int .i64 k4) (.int .i64 k5) (.string ⟨t1.toArray⟩) (.string ⟨t2.toArray⟩) (.string ⟨t3.toArray⟩)
          have qq0 : V9.cell? ⟨w.heap.size, 0, none⟩ = some (.int .i64 q1) := tz.cell 0
          have qq1 : V9.cell? ⟨w.heap.size, 1, none⟩ = some (.int .i64 q2) := tz.cell 1
          have qq2 : V9.cell? ⟨w.heap.size, 2, none⟩ = some (.int .i64 q3) := tz.cell 2
          have qq3 : V9.cell? ⟨w.heap.size, 3, none⟩ = some (.int .i64 q4) := tz.cell 3
          have qq4 : V9.cell? ⟨w.heap.size, 4, none⟩ = some (.int .i64 q5) := tz.cell 4
          have qq5 : V9.cell? ⟨w.heap.size, 5, none⟩ = some (.int .i64 q6) := tz.cell 5
          have qq6 : V9.cell? ⟨w.heap.size, 6, none⟩ = some (.int .i64 k1) := tz.cell 6
          have qq7 : V9.cell? ⟨w.heap.size, 7, none⟩ = some (.int .i64 k2) := tz.cell 7
          have qq8 : V9.cell? ⟨w.heap.size, 8, none⟩ = some (.int .i64 k3) := tz.cell 8
          have qq9 : V9.cell? ⟨w.heap.size, 9, none⟩ = some (.int .i64 k4) := tz.cell 9
          have qq10 : V9.cell? ⟨w.heap.size, 10, none⟩ = some (.int .i64 k5) := tz.cell 10
          have qq11 : V9.cell? ⟨w.heap.size, 11, none⟩ = some (.string ⟨t1.toArray⟩) := tz.cell 11
          have qq12 : V9.cell? ⟨w.heap.size, 12, none⟩ = some (.string ⟨t2.toArray⟩) := tz.cell 12
          have qq13 : V9.cell? ⟨w.heap.size, 13, none⟩ = some (.string ⟨t3.toArray⟩) := tz.cell 13
          clear hV
          go_wp2_with fail
          refine bodyPost_ret (v := .tuple #[.agg #[.int .i64 q1, .int .i64 q2, .int .i64 q3, .int .i64 q4, .int .i64 q5, .int .i64 q6, .int .i64 k1, .int .i64 k2, .int .i64 k3, .int .i64 k4, .int .i64 k5, .string ⟨t1.toArray⟩, .string ⟨t2.toArray⟩, .string ⟨t3.toArray⟩], .int .i64 0]) (by simp [results, Try.results24, go_sem, qq0, qq1, qq2, qq3, qq4, qq5, qq6, qq7, qq8, qq9, qq10, qq11, qq12, qq13]) rfl ⟨by rw [HE.out]; rfl, hz⟩
        | cons x0 rest' =>
          have HE := Lib.hid (show q = (msg0, 3) from by rw [HQ3.out]; simp)
          generalize hss : x0 :: rest' = rest at *
          have hsne : (rest == []) = false := by rw [← hss]; rfl
          have hsl : rest.length ≠ 0 := by rw [← hss]; simp
          clear hss
          have ltm := HM3.out.lt
          have c0 : w3.cell? ⟨w.heap.size, 0, none⟩ = some (.int .i64 0) := HM3.out.cell 0
          have g0 := HM3.out.free 0
          have c1 : w3.cell? ⟨w.heap.size, 1, none⟩ = some (.int .i64 0) := HM3.out.cell 1
          have g1 := HM3.out.free 1
          have c2 : w3.cell? ⟨w.heap.size, 2, none⟩ = some (.int .i64 0) := HM3.out.cell 2
          have g2 := HM3.out.free 2
          have c3 : w3.cell? ⟨w.heap.size, 3, none⟩ = some (.int .i64 0) := HM3.out.cell 3
          have g3 := HM3.out.free 3
          have c4 : w3.cell? ⟨w.heap.size, 4, none⟩ = some (.int .i64 0) := HM3.out.cell 4
          have g4 := HM3.out.free 4
          have c5 : w3.cell? ⟨w.heap.size, 5, none⟩ = some (.int .i64 0) := HM3.out.cell 5
          have g5 := HM3.out.free 5
          have c6 : w3.cell? ⟨w.heap.size, 6, none⟩ = some (.int .i64 0) := HM3.out.cell 6
          have g6 := HM3.out.free 6
          have c7 : w3.cell? ⟨w.heap.size, 7, none⟩ = some (.int .i64 0) := HM3.out.cell 7
          have g7 := HM3.out.free 7
          have c8 : w3.cell? ⟨w.heap.size, 8, none⟩ = some (.int .i64 0) := HM3.out.cell 8
          have g8 := HM3.out.free 8
          have c9 : w3.cell? ⟨w.heap.size, 9, none⟩ = some (.int .i64 0) := HM3.out.cell 9
          have g9 := HM3.out.free 9
          have c10 : w3.cell? ⟨w.heap.size, 10, none⟩ = some (.int .i64 0) := HM3.out.cell 10
          have g10 := HM3.out.free 10
          have c11 : w3.cell? ⟨w.heap.size, 11, none⟩ = some (.string ⟨#[]⟩) := HM3.out.cell 11
          have g11 := HM3.out.free 11
          have c12 : w3.cell? ⟨w.heap.size, 12, none⟩ = some (.string ⟨#[]⟩) := HM3.out.cell 12
          have g12 := HM3.out.free 12
          have c13 : w3.cell? ⟨w.heap.size, 13, none⟩ = some (.string ⟨#[]⟩) := HM3.out.cell 13
          have g13 := HM3.out.free 13
          go_wp2_with fail
          obtain ⟨V9, hV⟩ : ∃ V, V = ((((((((((((((w3.setCell ⟨w.heap.size, 0, none⟩ (.int .i64 0)).setCell ⟨w.heap.size, 1, none⟩ (.int .i64 0)).setCell ⟨w.heap.size, 2, none⟩ (.int .i64 0)).setCell ⟨w.heap.size, 3, none⟩ (.int .i64 0)).setCell ⟨w.heap.size, 4, none⟩ (.int .i64 0)).setCell ⟨w.heap.size, 5, none⟩ (.int .i64 0)).setCell ⟨w.heap.size, 6, none⟩ (.int .i64 0)).setCell ⟨w.heap.size, 7, none⟩ (.int .i64 0)).setCell ⟨w.heap.size, 8, none⟩ (.int .i64 0)).setCell ⟨w.heap.size, 9, none⟩ (.int .i64 0)).setCell ⟨w.heap.size, 10, none⟩ (.int .i64 0)).setCell ⟨w.heap.size, 11, none⟩ (.string ⟨#[]⟩)).setCell ⟨w.heap.size, 12, none⟩ (.string ⟨#[]⟩)).setCell ⟨w.heap.size, 13, none⟩ (.string ⟨#[]⟩)) := ⟨_, rfl⟩
          rw [← hV]
          replace hV : V9 = set14 w3 w.heap.size (.int .i64 0) (.int .i64 0) (.int .i64 0) (.int .i64 0) (.int .i64 0) (.int .i64 0) (.int .i64 0) (.int .i64 0) (.int .i64 0) (.int .i64 0) (.int .i64 0) (.string ⟨#[]⟩) (.string ⟨#[]⟩) (.string ⟨#[]⟩) := hV
          have tz : TBox V9 w.heap.size 25 #[.int .i64 0, .int .i64 0, .int .i64 0, .int .i64 0, .int .i64 0, .int .i64 0, .int .i64 0, .int .i64 0, .int .i64 0, .int .i64 0, .int .i64 0, .string ⟨#[]⟩, .string ⟨#[]⟩, .string ⟨#[]⟩] := by rw [hV]; exact set14_box HM3.out (.int .i64 0) (.int .i64 0) (.int .i64 0) (.int .i64 0) (.int .i64 0) (.int .i64 0) (.int .i64 0) (.int .i64 0) (.int .i64 0) (.int .i64 0) (.int .i64 0) (.string ⟨#[]⟩) (.string ⟨#[]⟩) (.string ⟨#[]⟩)
          have hz : Below w.heap.size w V9 := by rw [hV]; exact set14_below BW3.out (Nat.le_refl _) (.int .i64 0) (.int .i64 0) (.int .i64 0) (.int .i64 0) (.int .i64 0) (.int .i64 0) (.int .i64 0) (.int .i64 0) (.int .i64 0) (.int .i64 0) (.int .i64 0) (.string ⟨#[]⟩) (.string ⟨#[]⟩) (.string ⟨#[]⟩)
          obtain ⟨VA, hVA⟩ : ∃ V, V = V9.alloc (.cells #[.int .i64 k1, .int .i64 k2, .int .i64 k3, .int .i64 k4, .int .i64 k5, .string ⟨t1.toArray⟩, .string ⟨t2.toArray⟩, .string ⟨t3.toArray⟩] 23) := ⟨_, rfl⟩
          rw [← hVA]
          replace tz : TBox VA w.heap.size 25 #[.int .i64 0, .int .i64 0, .int .i64 0, .int .i64 0, .int .i64 0, .int .i64 0, .int .i64 0, .int .i64 0, .int .i64 0, .int .i64 0, .int .i64 0, .string ⟨#[]⟩, .string ⟨#[]⟩, .string ⟨#[]⟩] := by rw [hVA]; exact tz.below ((Below.refl _ _).alloc (Nat.le_refl _) _)
          replace hz : Below w.heap.size w VA := by rw [hVA]; exact hz.alloc hz.size _
          clear hVA
          have q0 : VA.cell? ⟨w.heap.size, 0, none⟩ = some (.int .i64 0) := tz.cell 0
          have q1 : VA.cell? ⟨w.heap.size, 1, none⟩ = some (.int .i64 0) := tz.cell 1
          have q2 : VA.cell? ⟨w.heap.size, 2, none⟩ = some (.int .i64 0) := tz.cell 2
          have q3 : VA.cell? ⟨w.heap.size, 3, none⟩ = some (.int .i64 0) := tz.cell 3
          have q4 : VA.cell? ⟨w.heap.size, 4, none⟩ = some (.int .i64 0) := tz.cell 4
          have q5 : VA.cell? ⟨w.heap.size, 5, none⟩ = some (.int .i64 0) := tz.cell 5
          have q6 : VA.cell? ⟨w.heap.size, 6, none⟩ = some (.int .i64 0) := tz.cell 6
          have q7 : VA.cell? ⟨w.heap.size, 7, none⟩ = some (.int .i64 0) := tz.cell 7
          have q8 : VA.cell? ⟨w.heap.size, 8, none⟩ = some (.int .i64 0) := tz.cell 8
          have q9 : VA.cell? ⟨w.heap.size, 9, none⟩ = some (.int .i64 0) := tz.cell 9
          have q10 : VA.cell? ⟨w.heap.size, 10, none⟩ = some (.int .i64 0) := tz.cell 10
          have q11 : VA.cell? ⟨w.heap.size, 11, none⟩ = some (.string ⟨#[]⟩) := tz.cell 11
          have q12 : VA.cell? ⟨w.heap.size, 12, none⟩ = some (.string ⟨#[]⟩) := tz.cell 12
          have q13 : VA.cell? ⟨w.heap.size, 13, none⟩ = some (.string ⟨#[]⟩) := tz.cell 13
          clear hV
          clear c0 g0 c1 g1 c2 g2 c3 g3 c4 g4 c5 g5 c6 g6 c7 g7 c8 g8 c9 g9 c10 g10 c11 g11 c12 g12 c13 g13
          refine bodyPost_ret (v := .tuple #[.agg #[.int .i64 0, .int .i64 0, .int .i64 0, .int .i64 0, .int .i64 0, .int .i64 0, .int .i64 0, .int .i64 0, .int .i64 0, .int .i64 0, .int .i64 0, .string ⟨#[]⟩, .string ⟨#[]⟩, .string ⟨#[]⟩], .int .i64 3]) (by simp [results, Try.results24, go_sem, q0, q1, q2, q3, q4, q5, q6, q7, q8, q9, q10, q11, q12, q13]) rfl ⟨by rw [HE.out]; rfl, hz⟩
      · have HE := Lib.hid (show q = (msg0, e3) from by rw [HQ3.out]; simp [he])
        have hne : (e3 == 0) = false := by simpa using he
        have hne2 : (e3 != 0) = true := by simpa using he
        have ltm := HM3.out.lt
        have c0 : w3.cell? ⟨w.heap.size, 0, none⟩ = some (.int .i64 0) := HM3.out.cell 0
        have g0 := HM3.out.free 0
        have c1 : w3.cell? ⟨w.heap.size, 1, none⟩ = some (.int .i64 0) := HM3.out.cell 1
        have g1 := HM3.out.free 1
        have c2 : w3.cell? ⟨w.heap.size, 2, none⟩ = some (.int .i64 0) := HM3.out.cell 2
        have g2 := HM3.out.free 2
        have c3 : w3.cell? ⟨w.heap.size, 3, none⟩ = some (.int .i64 0) := HM3.out.cell 3
        have g3 := HM3.out.free 3
        have c4 : w3.cell? ⟨w.heap.size, 4, none⟩ = some (.int .i64 0) := HM3.out.cell 4
        have g4 := HM3.out.free 4
        have c5 : w3.cell? ⟨w.heap.size, 5, none⟩ = some (.int .i64 0) := HM3.out.cell 5
        have g5 := HM3.out.free 5
        have c6 : w3.cell? ⟨w.heap.size, 6, none⟩ = some (.int .i64 0) := HM3.out.cell 6
        have g6 := HM3.out.free 6
        have c7 : w3.cell? ⟨w.heap.size, 7, none⟩ = some (.int .i64 0) := HM3.out.cell 7
        have g7 := HM3.out.free 7
        have c8 : w3.cell? ⟨w.heap.size, 8, none⟩ = some (.int .i64 0) := HM3.out.cell 8
        have g8 := HM3.out.free 8
        have c9 : w3.cell? ⟨w.heap.size, 9, none⟩ = some (.int .i64 0) := HM3.out.cell 9
        have g9 := HM3.out.free 9
        have c10 : w3.cell? ⟨w.heap.size, 10, none⟩ = some (.int .i64 0) := HM3.out.cell 10
        have g10 := HM3.out.free 10
        have c11 : w3.cell? ⟨w.heap.size, 11, none⟩ = some (.string ⟨#[]⟩) := HM3.out.cell 11
        have g11 := HM3.out.free 11
        have c12 : w3.cell? ⟨w.heap.size, 12, none⟩ = some (.string ⟨#[]⟩) := HM3.out.cell 12
        have g12 := HM3.out.free 12
        have c13 : w3.cell? ⟨w.heap.size, 13, none⟩ = some (.string ⟨#[]⟩) := HM3.out.cell 13
        have g13 := HM3.out.free 13
        go_wp2_with fail
        obtain ⟨V9, hV⟩ : ∃ V, V = ((((((((((((((w3.setCell ⟨w.heap.size, 0, none⟩ (.int .i64 0)).setCell ⟨w.heap.size, 1, none⟩ (.int .i64 0)).setCell ⟨w.heap.size, 2, none⟩ (.int .i64 0)).setCell ⟨w.heap.size, 3, none⟩ (.int .i64 0)).setCell ⟨w.heap.size, 4, none⟩ (.int .i64 0)).setCell ⟨w.heap.size, 5, none⟩ (.int .i64 0)).setCell ⟨w.heap.size, 6, none⟩ (.int .i64 0)).setCell ⟨w.heap.size, 7, none⟩ (.int .i64 0)).setCell ⟨w.heap.size, 8, none⟩ (.int .i64 0)).setCell ⟨w.heap.size, 9, none⟩ (.int .i64 0)).setCell ⟨w.heap.size, 10, none⟩ (.int .i64 0)).setCell ⟨w.heap.size, 11, none⟩ (.string ⟨#[]⟩)).setCell ⟨w.heap.size, 12, none⟩ (.string ⟨#[]⟩)).setCell ⟨w.heap.size, 13, none⟩ (.string ⟨#[]⟩)) := ⟨_, rfl⟩
        rw [← hV]
        replace hV : V9 = set14 w3 w.heap.size (.int .i64 0) (.int .i64 0) (.int .i64 0) (.int .i64 0) (.int .i64 0) (.int .i64 0) (.int .i64 0) (.int .i64 0) (.int .i64 0) (.int .i64 0) (.int .i64 0) (.string ⟨#[]⟩) (.string ⟨#[]⟩) (.string ⟨#[]⟩) := hV
        have tz : TBox V9 w.heap.size 25 #[.int .i64 0, .int .i64 0, .int .i64 0, .int .i64 0, .int .i64 0, .int .i64 0, .int .i64 0, .int .i64 0, .int .i64 0, .int .i64 0, .int .i64 0, .string ⟨#[]⟩, .string ⟨#[]⟩, .string ⟨#[]⟩] := by rw [hV]; exact set14_box HM3.out (.int .i64 0) (.int .i64 0) (.int .i64 0) (.int .i64 0) (.int .i64 0) (.int .i64 0) (.int .i64 0) (.int .i64 0) (.int .i64 0) (.int .i64 0) (.int .i64 0) (.string ⟨#[]⟩) (.string ⟨#[]⟩) (.string ⟨#[]⟩)
        have hz : Below w.heap.size w V9 := by rw [hV]; exact set14_below BW3.out (Nat.le_refl _) (.int .i64 0) (.int .i64 0) (.int .i64 0) (.int .i64 0) (.int .i64 0) (.int .i64 0) (.int .i64 0) (.int .i64 0) (.int .i64 0) (.int .i64 0) (.int .i64 0) (.string ⟨#[]⟩) (.string ⟨#[]⟩) (.string ⟨#[]⟩)
        obtain ⟨VA, hVA⟩ : ∃ V, V = V9.alloc (.cells #[.int .i64 k1, .int .i64 k2, .int .i64 k3, .int .i64 k4, .int .i64 k5, .string ⟨t1.toArray⟩, .string ⟨t2.toArray⟩, .string ⟨t3.toArray⟩] 23) := ⟨_, rfl⟩
        rw [← hVA]
        replace tz : TBox VA w.heap.size 25 #[.int .i64 0, .int .i64 0, .int .i64 0, .int .i64 0, .int .i64 0, .int .i64 0, .int .i64 0, .int .i64 0, .int .i64 0, .int .i64 0, .int .i64 0, .string ⟨#[]⟩, .string ⟨#[]⟩, .string ⟨#[]⟩] := by rw [hVA]; exact tz.below ((Below.refl _ _).alloc (Nat.le_refl _) _)
        replace hz : Below w.heap.size w VA := by rw [hVA]; exact hz.alloc hz.size _
        clear hVA
        have q0 : VA.cell? ⟨w.heap.size, 0, none⟩ = some (.int .i64 0) := tz.cell 0
        have q1 : VA.cell? ⟨w.heap.size, 1, none⟩ = some (.int .i64 0) := tz.cell 1
        have q2 : VA.cell? ⟨w.heap.size, 2, none⟩ = some (.int .i64 0) := tz.cell 2
        have q3 : VA.cell? ⟨w.heap.size, 3, none⟩ = some (.int .i64 0) := tz.cell 3
        have q4 : VA.cell? ⟨w.heap.size, 4, none⟩ = some (.int .i64 0) := tz.cell 4
        have q5 : VA.cell? ⟨w.heap.size, 5, none⟩ = some (.int .i64 0) := tz.cell 5
        have q6 : VA.cell? ⟨w.heap.size, 6, none⟩ = some (.int .i64 0) := tz.cell 6
        have q7 : VA.cell? ⟨w.heap.size, 7, none⟩ = some (.int .i64 0) := tz.cell 7
        have q8 : VA.cell? ⟨w.heap.size, 8, none⟩ = some (.int .i64 0) := tz.cell 8
        have q9 : VA.cell? ⟨w.heap.size, 9, none⟩ = some (.int .i64 0) := tz.cell 9
        have q10 : VA.cell? ⟨w.heap.size, 10, none⟩ = some (.int .i64 0) := tz.cell 10
        have q11 : VA.cell? ⟨w.heap.size, 11, none⟩ = some (.string ⟨#[]⟩) := tz.cell 11
        have q12 : VA.cell? ⟨w.heap.size, 12, none⟩ = some (.string ⟨#[]⟩) := tz.cell 12
        have q13 : VA.cell? ⟨w.heap.size, 13, none⟩ = some (.string ⟨#[]⟩) := tz.cell 13
        clear hV
        clear c0 g0 c1 g1 c2 g2 c3 g3 c4 g4 c5 g5 c6 g6 c7 g7 c8 g8 c9 g9 c10 g10 c11 g11 c12 g12 c13 g13
        refine bodyPost_ret (v := .tuple #[.agg #[.int .i64 0, .int .i64 0, .int .i64 0, .int .i64 0, .int .i64 0, .int .i64 0, .int .i64 0, .int .i64 0, .int .i64 0, .int .i64 0, .int .i64 0, .string ⟨#[]⟩, .string ⟨#[]⟩, .string ⟨#[]⟩], .int .i64 e3]) (by simp [results, Try.results24, go_sem, q0, q1, q2, q3, q4, q5, q6, q7, q8, q9, q10, q11, q12, q13]) rfl ⟨by rw [HE.out]; rfl, hz⟩
    · have HE := Lib.hid (show q = (msg0, e2) from by rw [HQ2.out, if_pos he])
      have hne : (e2 == 0) = false := by simpa using he
      have hne2 : (e2 != 0) = true := by simpa using he
      have c0 : w2.cell? ⟨w.heap.size, 0, none⟩ = some (.int .i64 0) := HM2.out.cell 0
      have g0 := HM2.out.free 0
      have c1 : w2.cell? ⟨w.heap.size, 1, none⟩ = some (.int .i64 0) := HM2.out.cell 1
      have g1 := HM2.out.free 1
      have c2 : w2.cell? ⟨w.heap.size, 2, none⟩ = some (.int .i64 0) := HM2.out.cell 2
      have g2 := HM2.out.free 2
      have c3 : w2.cell? ⟨w.heap.size, 3, none⟩ = some (.int .i64 0) := HM2.out.cell 3
      have g3 := HM2.out.free 3
      have c4 : w2.cell? ⟨w.heap.size, 4, none⟩ = some (.int .i64 0) := HM2.out.cell 4
      have g4 := HM2.out.free 4
      have c5 : w2.cell? ⟨w.heap.size, 5, none⟩ = some (.int .i64 0) := HM2.out.cell 5
      have g5 := HM2.out.free 5
      have c6 : w2.cell? ⟨w.heap.size, 6, none⟩ = some (.int .i64 0) := HM2.out.cell 6
      have g6 := HM2.out.free 6
      have c7 : w2.cell? ⟨w.heap.size, 7, none⟩ = some (.int .i64 0) := HM2.out.cell 7
      have g7 := HM2.out.free 7
      have c8 : w2.cell? ⟨w.heap.size, 8, none⟩ = some (.int .i64 0) := HM2.out.cell 8
      have g8 := HM2.out.free 8
      have c9 : w2.cell? ⟨w.heap.size, 9, none⟩ = some (.int .i64 0) := HM2.out.cell 9
      have g9 := HM2.out.free 9
      have c10 : w2.cell? ⟨w.heap.size, 10, none⟩ = some (.int .i64 0) := HM2.out.cell 10
      have g10 := HM2.out.free 10
      have c11 : w2.cell? ⟨w.heap.size, 11, none⟩ = some (.string ⟨#[]⟩) := HM2.out.cell 11
      have g11 := HM2.out.free 11
      have c12 : w2.cell? ⟨w.heap.size, 12, none⟩ = some (.string ⟨#[]⟩) := HM2.out.cell 12
      have g12 := HM2.out.free 12
      have c13 : w2.cell? ⟨w.heap.size, 13, none⟩ = some (.string ⟨#[]⟩) := HM2.out.cell 13
      have g13 := HM2.out.free 13
      go_wp2_with fail
      obtain ⟨V9, hV⟩ : ∃ V, V = ((((((((((((((w2.setCell ⟨w.heap.size, 0, none⟩ (.int .i64 0)).setCell ⟨w.heap.size, 1, none⟩ (.int .i64 0)).setCell ⟨w.heap.size, 2, none⟩ (.int .i64 0)).setCell ⟨w.heap.size, 3, none⟩ (.int .i64 0)).setCell ⟨w.heap.size, 4, none⟩ (.int .i64 0)).setCell ⟨w.heap.size, 5, none⟩ (.int .i64 0)).setCell ⟨w.heap.size, 6, none⟩ (.int .i64 0)).setCell ⟨w.heap.size, 7, none⟩ (.int .i64 0)).setCell ⟨w.heap.size, 8, none⟩ (.int .i64 0)).setCell ⟨w.heap.size, 9, none⟩ (.int .i64 0)).setCell ⟨w.heap.size, 10, none⟩ (.int .i64 0)).setCell ⟨w.heap.size, 11, none⟩ (.string ⟨#[]⟩)).setCell ⟨w.heap.size, 12, none⟩ (.string ⟨#[]⟩)).setCell ⟨w.heap.size, 13, none⟩ (.string ⟨#[]⟩)) := ⟨_, rfl⟩
      rw [← hV]
      replace hV : V9 = set14 w2 w.heap.size (.int .i64 0) (.int .i64 0) (.int .i64 0) (.int .i64 0) (.int .i64 0) (.int .i64 0) (.int .i64 0) (.int .i64 0) (.int .i64 0) (.int .i64 0) (.int .i64 0) (.string ⟨#[]⟩) (.string ⟨#[]⟩) (.string ⟨#[]⟩) := hV
      have tz : TBox V9 w.heap.size 25 #[.int .i64 0, .int .i64 0, .int .i64 0, .int .i64 0, .int .i64 0, .int .i64 0, .int .i64 0, .int .i64 0, .int .i64 0, .int .i64 0, .int .i64 0, .string ⟨#[]⟩, .string ⟨#[]⟩, .string ⟨#[]⟩] := by rw [hV]; exact set14_box HM2.out (.int .i64 0) (.int .i64 0) (.int .i64 0) (.int .i64 0) (.int .i64 0) (.int .i64 0) (.int .i64 0) (.int .i64 0) (.int .i64 0) (.int .i64 0) (.int .i64 0) (.string ⟨#[]⟩) (.string ⟨#[]⟩) (.string ⟨#[]⟩)
      have hz : Below w.heap.size w V9 := by rw [hV]; exact set14_below BW2.out (Nat.le_refl _) (.int .i64 0) (.int .i64 0) (.int .i64 0) (.int .i64 0) (.int .i64 0) (.int .i64 0) (.int .i64 0) (.int .i64 0) (.int .i64 0) (.int .i64 0) (.int .i64 0) (.string ⟨#[]⟩) (.string ⟨#[]⟩) (.string ⟨#[]⟩)
      have q0 : V9.cell? ⟨w.heap.size, 0, none⟩ = some (.int .i64 0) := tz.cell 0
      have q1 : V9.cell? ⟨w.heap.size, 1, none⟩ = some (.int .i64 0) := tz.cell 1
      have q2 : V9.cell? ⟨w.heap.size, 2, none⟩ = some (.int .i64 0) := tz.cell 2
      have q3 : V9.cell? ⟨w.heap.size, 3, none⟩ = some (.int .i64 0) := tz.cell 3
      have q4 : V9.cell? ⟨w.heap.size, 4, none⟩ = some (.int .i64 0) := tz.cell 4
      have q5 : V9.cell? ⟨w.heap.size, 5, none⟩ = some (.int .i64 0) := tz.cell 5
      have q6 : V9.cell? ⟨w.heap.size, 6, none⟩ = some (.int .i64 0) := tz.cell 6
      have q7 : V9.cell? ⟨w.heap.size, 7, none⟩ = some (.int .i64 0) := tz.cell 7
      have q8 : V9.cell? ⟨w.heap.size, 8, none⟩ = some (.int .i64 0) := tz.cell 8
      have q9 : V9.cell? ⟨w.heap.size, 9, none⟩ = some (.int .i64 0) := tz.cell 9
      have q10 : V9.cell? ⟨w.heap.size, 10, none⟩ = some (.int .i64 0) := tz.cell 10
      have q11 : V9.cell? ⟨w.heap.size, 11, none⟩ = some (.string ⟨#[]⟩) := tz.cell 11
      have q12 : V9.cell? ⟨w.heap.size, 12, none⟩ = some (.string ⟨#[]⟩) := tz.cell 12
      have q13 : V9.cell? ⟨w.heap.size, 13, none⟩ = some (.string ⟨#[]⟩) := tz.cell 13
      clear hV
      clear c0 g0 c1 g1 c2 g2 c3 g3 c4 g4 c5 g5 c6 g6 c7 g7 c8 g8 c9 g9 c10 g10 c11 g11 c12 g12 c13 g13
      refine bodyPost_ret (v := .tuple #[.agg #[.int .i64 0, .int .i64 0, .int .i64 0, .int .i64 0, .int .i64 0, .int .i64 0, .int .i64 0, .int .i64 0, .int .i64 0, .int .i64 0, .int .i64 0, .string ⟨#[]⟩, .string ⟨#[]⟩, .string ⟨#[]⟩], .int .i64 e2]) (by simp [results, Try.results24, go_sem, q0, q1, q2, q3, q4, q5, q6, q7, q8, q9, q10, q11, q12, q13]) rfl ⟨by rw [HE.out]; rfl, hz⟩
  · have HE := Lib.hid (show q = (msg0, e1) from by rw [HQ1.out, if_pos he])
    have hne : (e1 == 0) = false := by simpa using he
    have hne2 : (e1 != 0) = true := by simpa using he
    have c0 : w1.cell? ⟨w.heap.size, 0, none⟩ = some (.int .i64 0) := HM1.out.cell 0
    have g0 := HM1.out.free 0
    have c1 : w1.cell? ⟨w.heap.size, 1, none⟩ = some (.int .i64 0) := HM1.out.cell 1
    have g1 := HM1.out.free 1
    have c2 : w1.cell? ⟨w.heap.size, 2, none⟩ = some (.int .i64 0) := HM1.out.cell 2
    have g2 := HM1.out.free 2
    have c3 : w1.cell? ⟨w.heap.size, 3, none⟩ = some (.int .i64 0) := HM1.out.cell 3
    have g3 := HM1.out.free 3
    have c4 : w1.cell? ⟨w.heap.size, 4, none⟩ = some (.int .i64 0) := HM1.out.cell 4
    have g4 := HM1.out.free 4
    have c5 : w1.cell? ⟨w.heap.size, 5, none⟩ = some (.int .i64 0) := HM1.out.cell 5
    have g5 := HM1.out.free 5
    have c6 : w1.cell? ⟨w.heap.size, 6, none⟩ = some (.int .i64 0) := HM1.out.cell 6
    have g6 := HM1.out.free 6
    have c7 : w1.cell? ⟨w.heap.size, 7, none⟩ = some (.int .i64 0) := HM1.out.cell 7
    have g7 := HM1.out.free 7
    have c8 : w1.cell? ⟨w.heap.size, 8, none⟩ = some (.int .i64 0) := HM1.out.cell 8
    have g8 := HM1.out.free 8
    have c9 : w1.cell? ⟨w.heap.size, 9, none⟩ = some (.int .i64 0) := HM1.out.cell 9
    have g9 := HM1.out.free 9
    have c10 : w1.cell? ⟨w.heap.size, 10, none⟩ = some (.int .i64 0) := HM1.out.cell 10
    have g10 := HM1.out.free 10
    have c11 : w1.cell? ⟨w.heap.size, 11, none⟩ = some (.string ⟨#[]⟩) := HM1.out.cell 11
    have g11 := HM1.out.free 11
    have c12 : w1.cell? ⟨w.heap.size, 12, none⟩ = some (.string ⟨#[]⟩) := HM1.out.cell 12
    have g12 := HM1.out.free 12
    have c13 : w1.cell? ⟨w.heap.size, 13, none⟩ = some (.string ⟨#[]⟩) := HM1.out.cell 13
    have g13 := HM1.out.free 13
    go_wp2_with fail
    obtain ⟨V9, hV⟩ : ∃ V, V = ((((((((((((((w1.setCell ⟨w.heap.size, 0, none⟩ (.int .i64 0)).setCell ⟨w.heap.size, 1, none⟩ (.int .i64 0)).setCell ⟨w.heap.size, 2, none⟩ (.int .i64 0)).setCell ⟨w.heap.size, 3, none⟩ (.int .i64 0)).setCell ⟨w.heap.size, 4, none⟩ (.int .i64 0)).setCell ⟨w.heap.size, 5, none⟩ (.int .i64 0)).setCell ⟨w.heap.size, 6, none⟩ (.int .i64 0)).setCell ⟨w.heap.size, 7, none⟩ (.int .i64 0)).setCell ⟨w.heap.size, 8, none⟩ (.int .i64 0)).setCell ⟨w.heap.size, 9, none⟩ (.int .i64 0)).setCell ⟨w.heap.size, 10, none⟩ (.int .i64 0)).setCell ⟨w.heap.size, 11, none⟩ (.string ⟨#[]⟩)).setCell ⟨w.heap.size, 12, none⟩ (.string ⟨#[]⟩)).setCell ⟨w.heap.size, 13, none⟩ (.string ⟨#[]⟩)) := ⟨_, rfl⟩
    rw [← hV]
    replace hV : V9 = set14 w1 w.heap.size (.int .i64 0) (.int .i64 0) (.int .i64 0) (.int .i64 0) (.int .i64 0) (.int .i64 0) (.int .i64 0) (.int .i64 0) (.int .i64 0) (.int .i64 0) (.int .i64 0) (.string ⟨#[]⟩) (.string ⟨#[]⟩) (.string ⟨#[]⟩) := hV
    have tz : TBox V9 w.heap.size 25 #[.int .i64 0, .int .i64 0, .int .i64 0, .int .i64 0, .int .i64 0, .int .i64 0, .int .i64 0, .int .i64 0, .int .i64 0, .int .i64 0, .int .i64 0, .string ⟨#[]⟩, .string ⟨#[]⟩, .string ⟨#[]⟩] := by rw [hV]; exact set14_box HM1.out (.int .i64 0) (.int .i64 0) (.int .i64 0) (.int .i64 0) (.int .i64 0) (.int .i64 0) (.int .i64 0) (.int .i64 0) (.int .i64 0) (.int .i64 0) (.int .i64 0) (.string ⟨#[]⟩) (.string ⟨#[]⟩) (.string ⟨#[]⟩)
    have hz : Below w.heap.size w V9 := by rw [hV]; exact set14_below BW1.out (Nat.le_refl _) (.int .i64 0) (.int .i64 0) (.int .i64 0) (.int .i64 0) (.int .i64 0) (.int .i64 0) (.int .i64 0) (.int .i64 0) (.int .i64 0) (.int .i64 0) (.int .i64 0) (.string ⟨#[]⟩) (.string ⟨#[]⟩) (.string ⟨#[]⟩)
    have q0 : V9.cell? ⟨w.heap.size, 0, none⟩ = some (.int .i64 0) := tz.cell 0
    have q1 : V9.cell? ⟨w.heap.size, 1, none⟩ = some (.int .i64 0) := tz.cell 1
    have q2 : V9.cell? ⟨w.heap.size, 2, none⟩ = some (.int .i64 0) := tz.cell 2
    have q3 : V9.cell? ⟨w.heap.size, 3, none⟩ = some (.int .i64 0) := tz.cell 3
    have q4 : V9.cell? ⟨w.heap.size, 4, none⟩ = some (.int .i64 0) := tz.cell 4
    have q5 : V9.cell? ⟨w.heap.size, 5, none⟩ = some (.int .i64 0) := tz.cell 5
    have q6 : V9.cell? ⟨w.heap.size, 6, none⟩ = some (.int .i64 0) := tz.cell 6
    have q7 : V9.cell? ⟨w.heap.size, 7, none⟩ = some (.int .i64 0) := tz.cell 7
    have q8 : V9.cell? ⟨w.heap.size, 8, none⟩ = some (.int .i64 0) := tz.cell 8
    have q9 : V9.cell? ⟨w.heap.size, 9, none⟩ = some (.int .i64 0) := tz.cell 9
    have q10 : V9.cell? ⟨w.heap.size, 10, none⟩ = some (.int .i64 0) := tz.cell 10
    have q11 : V9.cell? ⟨w.heap.size, 11, none⟩ = some (.string ⟨#[]⟩) := tz.cell 11
    have q12 : V9.cell? ⟨w.heap.size, 12, none⟩ = some (.string ⟨#[]⟩) := tz.cell 12
    have q13 : V9.cell? ⟨w.heap.size, 13, none⟩ = some (.string ⟨#[]⟩) := tz.cell 13
    clear hV
    clear c0 g0 c1 g1 c2 g2 c3 g3 c4 g4 c5 g5 c6 g6 c7 g7 c8 g8 c9 g9 c10 g10 c11 g11 c12 g12 c13 g13
    refine bodyPost_ret (v := .tuple #[.agg #[.int .i64 0, .int .i64 0, .int .i64 0, .int .i64 0, .int .i64 0, .int .i64 0, .int .i64 0, .int .i64 0, .int .i64 0, .int .i64 0, .int .i64 0, .string ⟨#[]⟩, .string ⟨#[]⟩, .string ⟨#[]⟩], .int .i64 e1]) (by simp [results, Try.results24, go_sem, q0, q1, q2, q3, q4, q5, q6, q7, q8, q9, q10, q11, q12, q13]) rfl ⟨by rw [HE.out]; rfl, hz⟩

end Go.Proofs.Ytpojhcpkmpbflaa
