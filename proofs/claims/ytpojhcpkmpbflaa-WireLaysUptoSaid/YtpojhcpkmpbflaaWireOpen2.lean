/- wire.opened with TakeRsp's function: it answers as the document says, and fills its box. -/
import Derived.Test.YtpojhcpkmpbflaaWireTr
import Derived.Test.YtpojhcpkmpbflaaWireOpen
set_option linter.unusedVariables false
set_option linter.unusedSimpArgs false
namespace Go.Proofs.Ytpojhcpkmpbflaa
open Go.RowKit Copyhold

set_option maxRecDepth 100000 in
set_option maxHeartbeats 16000000 in
theorem opened_Rsp (l : List UInt8) (M : Nat) (w : World) (hm : TBox w M 31 #[.int .i64 0, .int .i64 0, .int .i64 0, .int .i64 0, .int .i64 0, .int .i64 0, .int .i64 0, .int .i64 0, .int .i64 0, .string ⟨#[]⟩, .slice none 0 0]) (hl : l.length ≤ 2147483648) :
    Calls Try.prog 42 #[.string ⟨l.toArray⟩, .string ⟨#[114]⟩, .func (.func 46) #[] #[.pointer (some ⟨M, 0, none⟩)]] w fun e w' => e = .returned (.int .i64 (takeRsp l).2) ∧ OpenW w M w' ∧ ∃ x A c, TBox w' M 31 (rspCells x (.slice A x.names.length c)) ∧ ((takeRsp l).2 = 0 → x = (takeRsp l).1 ∧ w'.ownsRow w.heap.size 9 1 (.slice A x.names.length c) x.names.length (x.names.map strV)) := by
  have HS := Lib.hid (seal_Take l w (by omega))
  have hbd := (takeS_bd l).2.2
  have hM := hm.lt
  have hQ : takeRsp l = if (takeS l).2 ≠ 0 then (rsp0, (takeS l).2) else match behindL 114 (takeS l).1 with
    | none => (rsp0, 3)
    | some r => if (rspSt r 0).2.2 ≠ 0 then (rsp0, (rspSt r 0).2.2) else if (rspSt r 0).2.1 ≠ [] then (rsp0, 3) else ((rspSt r 0).1, 0) := rfl
  have hb2 := (takeS_bd l).1
  generalize takeRsp l = q at *
  generalize takeS l = ts at *
  obtain ⟨body, er⟩ := ts
  simp only at HS hbd hQ hb2
  have HQ := Lib.hid hQ
  have HM := Lib.hid hm
  have HTP := Lib.hid (fun W => Try.strings_TrimPrefix ⟨body.toArray⟩ ⟨#[114]⟩ W)
  have HHP := Lib.hid (fun W => Try.strings_HasPrefix ⟨body.toArray⟩ ⟨#[114]⟩ W)
  have e1 : Lib.trimPrefix (⟨body.toArray⟩ : ByteArray).data.toList (⟨#[114]⟩ : ByteArray).data.toList = Lib.trimPrefix body [114] := rfl
  have e2 : Lib.hasPrefix (⟨body.toArray⟩ : ByteArray).data.toList (⟨#[114]⟩ : ByteArray).data.toList = (behindL 114 body).isSome := hasP 114 body
  rw [e1] at HTP
  rw [e2] at HHP
  have htl := trimP_len 114 body
  have HTR := Lib.hid (trimP 114 body)
  generalize Lib.trimPrefix body [114] = tp at *
  clear hQ hm e1 e2
  by_cases her : er = 0
  · subst her
    cases hbh : behindL 114 body with
    | none =>
      have HQ2 := Lib.hid (show q = (rsp0, 3) from by rw [HQ.out, if_neg (by decide), hbh])
      rw [hbh] at HHP
      simp only [Option.isSome_none] at HHP
      clear HQ hbh HTR
      go_enter Try.func42, Try.ntmps42
      go_wp2_with fail
      refine wp_scope_fwd 0 rfl ?_
      go_wp2_with fail
      refine HS.out.mono ?_
      rintro e w1 ⟨rfl, hb1⟩
      have HB1 := Lib.hid hb1
      clear hb1
      go_wp2_with fail
      refine (HTP.out w1).mono ?_
      rintro e w2 ⟨rfl, rfl⟩
      go_wp2_with fail
      refine (wire_begin tp _).mono ?_
      rintro e w3 ⟨rfl, hb3⟩
      obtain ⟨W4, hW4⟩ : ∃ W4, W4 = w3.alloc (.cells #[.string ⟨tp.toArray⟩, .int .i64 0] 73) := ⟨_, rfl⟩
      have b34 : Below w3.heap.size w3 W4 := by rw [hW4]; exact (Below.refl _ _).alloc (Nat.le_refl _) _
      have tx : TBox W4 w3.heap.size 73 #[.string ⟨tp.toArray⟩, .int .i64 0] := by rw [hW4]; exact TBox.new _ _ _
      have hbb := below_trans HB1.out hb3 HB1.out.size
      have hs3 := hbb.size
      have HX := Lib.hid (And.intro (below_trans hbb b34 hs3) (And.intro tx (((HM.out.below HB1.out).below hb3).below b34)))
      have HW4 := Lib.hid hW4
      clear hb3 b34 tx hW4 hbb
      go_wp2_with fail
      rw [← HW4.out]
      refine (HHP.out W4).mono ?_
      rintro e w5 ⟨rfl, hw5⟩
      replace hw5 := hw5.symm
      subst hw5
      have c1 : W4.cell? ⟨w3.heap.size, 1, none⟩ = some (.int .i64 0) := HX.out.2.1.cell 1
      have f1 := HX.out.2.1.free 1
      have t9 := HX.out.2.1.set 1 (.int .i64 3)
      have c2 : (W4.setCell ⟨w3.heap.size, 1, none⟩ (.int .i64 3)).cell? ⟨w3.heap.size, 1, none⟩ = some (.int .i64 3) := t9.cell 1
      have hne : M ≠ w3.heap.size := by omega
      have hfin : q.2 = 3 := by rw [HQ2.out]
      go_wp2_with fail
      go_step3
      try simp only [Exit.jump]
      refine ⟨rfl, fun J => ?_⟩
      go_wp2_with fail
      try simp only [Exit.jump]
      refine bodyPost_ret (v := .int .i64 3) (by simp [results, Try.results42, go_sem]) rfl ⟨by rw [hfin], (OpenW.of HX.out.1).set _ _ _ hs3, rsp0, none, 0, HX.out.2.2.far _ _ _ hne, fun h => absurd (show (3 : Int) = 0 from by rw [hfin] at h; exact h) (by decide)⟩
    | some r =>
      rw [hbh] at HHP
      simp only [Option.isSome_some] at HHP
      obtain rfl := HTR.out r hbh
      have hq := HQ.out
      rw [if_neg (by decide), hbh] at hq
      dsimp only at hq
      obtain ⟨⟨x, s, er2⟩, hst⟩ : ∃ y, rspSt tp 0 = y := ⟨_, rfl⟩
      rw [hst] at hq
      dsimp only at hq
      have HST := Lib.hid hst
      clear HQ hbh HTR hst
      by_cases he2 : er2 = 0
      · subst he2
        rw [if_neg (by decide)] at hq
        cases s with
        | nil =>
          rw [if_neg (by decide)] at hq
          have HQ2 := Lib.hid hq
          clear hq
          go_enter Try.func42, Try.ntmps42
          go_wp2_with fail
          refine wp_scope_fwd 0 rfl ?_
          go_wp2_with fail
          refine HS.out.mono ?_
          rintro e w1 ⟨rfl, hb1⟩
          have HB1 := Lib.hid hb1
          clear hb1
          go_wp2_with fail
          refine (HTP.out w1).mono ?_
          rintro e w2 ⟨rfl, rfl⟩
          go_wp2_with fail
          refine (wire_begin tp _).mono ?_
          rintro e w3 ⟨rfl, hb3⟩
          obtain ⟨W4, hW4⟩ : ∃ W4, W4 = w3.alloc (.cells #[.string ⟨tp.toArray⟩, .int .i64 0] 73) := ⟨_, rfl⟩
          have b34 : Below w3.heap.size w3 W4 := by rw [hW4]; exact (Below.refl _ _).alloc (Nat.le_refl _) _
          have tx : TBox W4 w3.heap.size 73 #[.string ⟨tp.toArray⟩, .int .i64 0] := by rw [hW4]; exact TBox.new _ _ _
          have hbb := below_trans HB1.out hb3 HB1.out.size
          have hs3 := hbb.size
          have HX := Lib.hid (And.intro (below_trans hbb b34 hs3) (And.intro tx (((HM.out.below HB1.out).below hb3).below b34)))
          have HW4 := Lib.hid hW4
          clear hb3 b34 tx hW4 hbb
          go_wp2_with fail
          rw [← HW4.out]
          refine (HHP.out W4).mono ?_
          rintro e w5 ⟨rfl, hw5⟩
          replace hw5 := hw5.symm
          subst hw5
          have hne : M ≠ w3.heap.size := by omega
          have HF := Lib.hid (takeRsp_fill tp 0 w3.heap.size M 73 _ W4 HX.out.2.1 rfl rfl HX.out.2.2 hne (by omega))
          rw [HST.out] at HF
          simp only at HF
          go_wp2_with fail
          refine HF.out.mono ?_
          rintro e w6 ⟨rfl, hk, A6, c6, hmm, ho6⟩
          have tx6 : TBox w6 w3.heap.size 73 #[.string ⟨(([] : List UInt8)).toArray⟩, .int .i64 0] := hk.1 _ _ HX.out.2.1
          have HO6 := Lib.hid (owns_base ho6 HX.out.1.size)
          clear ho6
          have HK := Lib.hid (And.intro (OpenW.tk HX.out.1 hk hs3 hM) hmm)
          have x0 : w6.cell? ⟨w3.heap.size, 0, none⟩ = some (.string ⟨(([] : List UInt8)).toArray⟩) := tx6.cell 0
          have x1 : w6.cell? ⟨w3.heap.size, 1, none⟩ = some (.int .i64 0) := tx6.cell 1
          have f1 := tx6.free 1
          clear hk hmm tx6
          go_wp2_with fail
          go_step3
          go_wp2_with fail
          try simp only [Exit.jump]
          refine bodyPost_ret (v := .int .i64 0) (by simp [results, Try.results42, go_sem]) rfl ⟨by rw [HQ2.out], HK.out.1, x, A6, c6, HK.out.2, fun _ => ⟨by rw [HQ2.out], HO6.out⟩⟩
        | cons x0' s' =>
          rw [if_pos (by simp)] at hq
          have HQ2 := Lib.hid hq
          generalize hss : x0' :: s' = s at *
          have hsne : (s == []) = false := by rw [← hss]; rfl
          have hsl : s.length ≠ 0 := by rw [← hss]; simp
          clear hq hss
          go_enter Try.func42, Try.ntmps42
          go_wp2_with fail
          refine wp_scope_fwd 0 rfl ?_
          go_wp2_with fail
          refine HS.out.mono ?_
          rintro e w1 ⟨rfl, hb1⟩
          have HB1 := Lib.hid hb1
          clear hb1
          go_wp2_with fail
          refine (HTP.out w1).mono ?_
          rintro e w2 ⟨rfl, rfl⟩
          go_wp2_with fail
          refine (wire_begin tp _).mono ?_
          rintro e w3 ⟨rfl, hb3⟩
          obtain ⟨W4, hW4⟩ : ∃ W4, W4 = w3.alloc (.cells #[.string ⟨tp.toArray⟩, .int .i64 0] 73) := ⟨_, rfl⟩
          have b34 : Below w3.heap.size w3 W4 := by rw [hW4]; exact (Below.refl _ _).alloc (Nat.le_refl _) _
          have tx : TBox W4 w3.heap.size 73 #[.string ⟨tp.toArray⟩, .int .i64 0] := by rw [hW4]; exact TBox.new _ _ _
          have hbb := below_trans HB1.out hb3 HB1.out.size
          have hs3 := hbb.size
          have HX := Lib.hid (And.intro (below_trans hbb b34 hs3) (And.intro tx (((HM.out.below HB1.out).below hb3).below b34)))
          have HW4 := Lib.hid hW4
          clear hb3 b34 tx hW4 hbb
          go_wp2_with fail
          rw [← HW4.out]
          refine (HHP.out W4).mono ?_
          rintro e w5 ⟨rfl, hw5⟩
          replace hw5 := hw5.symm
          subst hw5
          have hne : M ≠ w3.heap.size := by omega
          have HF := Lib.hid (takeRsp_fill tp 0 w3.heap.size M 73 _ W4 HX.out.2.1 rfl rfl HX.out.2.2 hne (by omega))
          rw [HST.out] at HF
          simp only at HF
          go_wp2_with fail
          refine HF.out.mono ?_
          rintro e w6 ⟨rfl, hk, A6, c6, hmm, ho6⟩
          have tx6 : TBox w6 w3.heap.size 73 #[.string ⟨s.toArray⟩, .int .i64 0] := hk.1 _ _ HX.out.2.1
          have HO6 := Lib.hid (owns_base ho6 HX.out.1.size)
          clear ho6
          have HK := Lib.hid (And.intro (OpenW.tk HX.out.1 hk hs3 hM) hmm)
          have x0 : w6.cell? ⟨w3.heap.size, 0, none⟩ = some (.string ⟨s.toArray⟩) := tx6.cell 0
          have x1 : w6.cell? ⟨w3.heap.size, 1, none⟩ = some (.int .i64 0) := tx6.cell 1
          have f1 := tx6.free 1
          have t9 := tx6.set 1 (.int .i64 3)
          have c2 : (w6.setCell ⟨w3.heap.size, 1, none⟩ (.int .i64 3)).cell? ⟨w3.heap.size, 1, none⟩ = some (.int .i64 3) := t9.cell 1
          clear hk hmm tx6 t9
          have hfin : q.2 = 3 := by rw [HQ2.out]
          go_wp2_with fail
          go_step3
          go_wp2_with fail
          try simp only [Exit.jump]
          refine bodyPost_ret (v := .int .i64 3) (by simp [results, Try.results42, go_sem]) rfl ⟨by rw [hfin], HK.out.1.set _ _ _ hs3, x, A6, c6, HK.out.2.far _ _ _ hne, fun h => absurd (show (3 : Int) = 0 from by rw [hfin] at h; exact h) (by decide)⟩
      · rw [if_pos he2] at hq
        have HQ2 := Lib.hid hq
        have hne3 : (er2 == 0) = false := by simpa using he2
        clear hq
        go_enter Try.func42, Try.ntmps42
        go_wp2_with fail
        refine wp_scope_fwd 0 rfl ?_
        go_wp2_with fail
        refine HS.out.mono ?_
        rintro e w1 ⟨rfl, hb1⟩
        have HB1 := Lib.hid hb1
        clear hb1
        go_wp2_with fail
        refine (HTP.out w1).mono ?_
        rintro e w2 ⟨rfl, rfl⟩
        go_wp2_with fail
        refine (wire_begin tp _).mono ?_
        rintro e w3 ⟨rfl, hb3⟩
        obtain ⟨W4, hW4⟩ : ∃ W4, W4 = w3.alloc (.cells #[.string ⟨tp.toArray⟩, .int .i64 0] 73) := ⟨_, rfl⟩
        have b34 : Below w3.heap.size w3 W4 := by rw [hW4]; exact (Below.refl _ _).alloc (Nat.le_refl _) _
        have tx : TBox W4 w3.heap.size 73 #[.string ⟨tp.toArray⟩, .int .i64 0] := by rw [hW4]; exact TBox.new _ _ _
        have hbb := below_trans HB1.out hb3 HB1.out.size
        have hs3 := hbb.size
        have HX := Lib.hid (And.intro (below_trans hbb b34 hs3) (And.intro tx (((HM.out.below HB1.out).below hb3).below b34)))
        have HW4 := Lib.hid hW4
        clear hb3 b34 tx hW4 hbb
        go_wp2_with fail
        rw [← HW4.out]
        refine (HHP.out W4).mono ?_
        rintro e w5 ⟨rfl, hw5⟩
        replace hw5 := hw5.symm
        subst hw5
        have hne : M ≠ w3.heap.size := by omega
        have HF := Lib.hid (takeRsp_fill tp 0 w3.heap.size M 73 _ W4 HX.out.2.1 rfl rfl HX.out.2.2 hne (by omega))
        rw [HST.out] at HF
        simp only at HF
        go_wp2_with fail
        refine HF.out.mono ?_
        rintro e w6 ⟨rfl, hk, A6, c6, hmm, ho6⟩
        have tx6 : TBox w6 w3.heap.size 73 #[.string ⟨s.toArray⟩, .int .i64 er2] := hk.1 _ _ HX.out.2.1
        have HO6 := Lib.hid (owns_base ho6 HX.out.1.size)
        clear ho6
        have HK := Lib.hid (And.intro (OpenW.tk HX.out.1 hk hs3 hM) hmm)
        have x0 : w6.cell? ⟨w3.heap.size, 0, none⟩ = some (.string ⟨s.toArray⟩) := tx6.cell 0
        have x1 : w6.cell? ⟨w3.heap.size, 1, none⟩ = some (.int .i64 er2) := tx6.cell 1
        have f1 := tx6.free 1
        clear hk hmm tx6
        go_wp2_with fail
        go_step3
        go_wp2_with fail
        try simp only [Exit.jump]
        refine bodyPost_ret (v := .int .i64 er2) (by simp [results, Try.results42, go_sem]) rfl ⟨by rw [HQ2.out], HK.out.1, x, A6, c6, HK.out.2, fun h => absurd (show er2 = 0 from by rw [HQ2.out] at h; exact h) he2⟩
  · have HQ2 := Lib.hid (show q = (rsp0, er) from by rw [HQ.out, if_pos her])
    have hne3 : (er == 0) = false := by simpa using her
    have hne4 : (er != 0) = true := by simpa using her
    clear HQ HTR
    go_enter Try.func42, Try.ntmps42
    go_wp2_with fail
    refine wp_scope_fwd 0 rfl ?_
    go_wp2_with fail
    refine HS.out.mono ?_
    rintro e w1 ⟨rfl, hb1⟩
    have HB1 := Lib.hid hb1
    clear hb1
    go_wp2_with fail
    refine (HTP.out w1).mono ?_
    rintro e w2 ⟨rfl, rfl⟩
    go_wp2_with fail
    refine (wire_begin tp _).mono ?_
    rintro e w3 ⟨rfl, hb3⟩
    obtain ⟨W4, hW4⟩ : ∃ W4, W4 = w3.alloc (.cells #[.string ⟨tp.toArray⟩, .int .i64 0] 73) := ⟨_, rfl⟩
    have b34 : Below w3.heap.size w3 W4 := by rw [hW4]; exact (Below.refl _ _).alloc (Nat.le_refl _) _
    have tx : TBox W4 w3.heap.size 73 #[.string ⟨tp.toArray⟩, .int .i64 0] := by rw [hW4]; exact TBox.new _ _ _
    have hbb := below_trans HB1.out hb3 HB1.out.size
    have hs3 := hbb.size
    have HX := Lib.hid (And.intro (below_trans hbb b34 hs3) (And.intro tx (((HM.out.below HB1.out).below hb3).below b34)))
    have HW4 := Lib.hid hW4
    clear hb3 b34 tx hW4 hbb
    go_wp2_with fail
    rw [← HW4.out]
    try simp only [Exit.jump]
    refine bodyPost_ret (v := .int .i64 er) (by simp [results, Try.results42, go_sem]) rfl ⟨by rw [HQ2.out], OpenW.of HX.out.1, rsp0, none, 0, HX.out.2.2, fun h => absurd (show er = 0 from by rw [HQ2.out] at h; exact h) her⟩
end Go.Proofs.Ytpojhcpkmpbflaa
