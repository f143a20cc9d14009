/- wire.opened with TakeMsg's function: it answers as the document says, and fills its box. -/
import Derived.Test.YtpojhcpkmpbflaaWireTk3
import Derived.ScopeJumps
set_option linter.unusedVariables false
set_option linter.unusedSimpArgs false
namespace Go.Proofs.Ytpojhcpkmpbflaa
open Go.RowKit Copyhold

theorem wp_scope_fwd {P : Program} {a : Act} {w : World} {Q : Exit → Act → World → Prop} {c rest : Code} (l : Nat) (hf : findLabel c l = some rest)
    (first : c.wp P (Exit.jump l (fun a w => ∀ J : Act → World → Prop, rest.wp P (Exit.jump l J Q) a w) Q) a w) : (Code.scope c).wp P Q a w :=
  wp_scope_jumps l _ (fun _ _ => 0) hf first (fun a w h => h _)

theorem hasP (b : UInt8) (l : List UInt8) : Lib.hasPrefix l [b] = (behindL b l).isSome := by
  cases l with
  | nil => rfl
  | cons x r =>
    show (b == x && List.isPrefixOf [] r) = _
    unfold behindL
    by_cases h : x = b
    · subst h; simp
    · rw [show (b == x) = false from by rw [beq_eq_false_iff_ne]; exact fun e => h e.symm]
      simp [h]
theorem trimP (b : UInt8) (l r : List UInt8) (h : behindL b l = some r) : Lib.trimPrefix l [b] = r := by
  cases l with
  | nil => cases h
  | cons x r' =>
    unfold behindL at h
    by_cases hx : x = b
    · subst hx
      simp at h
      subst h
      simp [Lib.trimPrefix, Lib.hasPrefix]
    · simp [hx] at h
theorem trimP_len (b : UInt8) (l : List UInt8) : (Lib.trimPrefix l [b]).length ≤ l.length := by
  unfold Lib.trimPrefix
  split
  · simp
  · exact Nat.le_refl _

/-- what is left of memory by one who fills the box M -/
def OpenW (w : World) (M : Nat) (w' : World) : Prop :=
  (∀ k, k ≠ M → k < w.heap.size → w'.heap[k]? = w.heap[k]?) ∧ w.heap.size ≤ w'.heap.size ∧ (∀ base a, Below base a w → base ≤ M → base ≤ w.heap.size → Below base a w')
theorem OpenW.of {w w' : World} {M : Nat} (h : Below w.heap.size w w') : OpenW w M w' :=
  ⟨fun k _ hs => h.block k hs, h.size, fun base a ha _ hs => ha.trans (h.mono hs)⟩
theorem OpenW.set {w w' : World} {M : Nat} (h : OpenW w M w') (b o : Nat) (v : Value) (hb : w.heap.size ≤ b) : OpenW w M (w'.setCell ⟨b, o, none⟩ v) := by
  obtain ⟨h1, h2, h3⟩ := h
  refine ⟨fun k hk hs => ?_, by simpa using h2, fun base a ha hM hs => (h3 base a ha hM hs).setCell (p := ⟨b, o, none⟩) (Nat.le_trans hs hb) _⟩
  rw [heap_setCell_far _ _ _ _ (by simp; omega)]
  exact h1 k hk hs
theorem OpenW.tk {w w1 w' : World} {B M : Nat} {s : List UInt8} {e : Int} (h : Below w.heap.size w w1) (k : Tk2 w1 B M s e w') (hB : w.heap.size ≤ B) (hM : M < w.heap.size) : OpenW w M w' := by
  obtain ⟨_, h2, h3, h4⟩ := k
  have hs1 := h.size
  refine ⟨fun j hj hs => (h2 j (by omega) hj (by omega)).trans (h.block j hs), Nat.le_trans hs1 h3, fun base a ha hm hs => h4 base a (ha.trans (h.mono hs)) (Nat.le_trans hs hB) hm (Nat.le_trans hs hs1)⟩

set_option maxRecDepth 100000 in
set_option maxHeartbeats 16000000 in
theorem opened_Msg (l : List UInt8) (M : Nat) (w : World) (hm : TBox w M 25 #[.int .i64 0, .int .i64 0, .int .i64 0, .int .i64 0, .int .i64 0, .int .i64 0, .int .i64 0, .int .i64 0, .int .i64 0, .int .i64 0, .int .i64 0, .string ⟨#[]⟩, .string ⟨#[]⟩, .string ⟨#[]⟩]) (hl : l.length ≤ 140737488355328) :
    Calls Try.prog 42 #[.string ⟨l.toArray⟩, .string ⟨#[109]⟩, .func (.func 43) #[] #[.pointer (some ⟨M, 0, none⟩)]] w fun e w' => e = .returned (.int .i64 (takeMsg l).2) ∧ OpenW w M w' ∧ ∃ x, TBox w' M 25 (msgCells x) ∧ ((takeMsg l).2 = 0 → x = (takeMsg l).1) := by
  have HS := Lib.hid (seal_Take l w hl)
  have hbd := (takeS_bd l).2.2
  have hM := hm.lt
  have hQ : takeMsg l = if (takeS l).2 ≠ 0 then (msg0, (takeS l).2) else match behindL 109 (takeS l).1 with
    | none => (msg0, 3)
    | some r => if (msgSt r 0).2.2 ≠ 0 then (msg0, (msgSt r 0).2.2) else if (msgSt r 0).2.1 ≠ [] then (msg0, 3) else ((msgSt r 0).1, 0) := rfl
  have hb2 := (takeS_bd l).1
  generalize takeMsg l = q at *
  generalize takeS l = ts at *
  obtain ⟨body, er⟩ := ts
  simp only at HS hbd hQ hb2
  have HQ := Lib.hid hQ
  have HM := Lib.hid hm
  have HTP := Lib.hid (fun W => Try.strings_TrimPrefix ⟨body.toArray⟩ ⟨#[109]⟩ W)
  have HHP := Lib.hid (fun W => Try.strings_HasPrefix ⟨body.toArray⟩ ⟨#[109]⟩ W)
  have e1 : Lib.trimPrefix (⟨body.toArray⟩ : ByteArray).data.toList (⟨#[109]⟩ : ByteArray).data.toList = Lib.trimPrefix body [109] := rfl
  have e2 : Lib.hasPrefix (⟨body.toArray⟩ : ByteArray).data.toList (⟨#[109]⟩ : ByteArray).data.toList = (behindL 109 body).isSome := hasP 109 body
  rw [e1] at HTP
  rw [e2] at HHP
  have htl := trimP_len 109 body
  have HTR := Lib.hid (trimP 109 body)
  generalize Lib.trimPrefix body [109] = tp at *
  clear hQ hm e1 e2
  by_cases her : er = 0
  · subst her
    cases hbh : behindL 109 body with
    | none =>
      have HQ2 := Lib.hid (show q = (msg0, 3) from by rw [HQ.out, if_neg (by decide), hbh])
      rw [hbh] at HHP
      simp only [Option.isSome_none] at HHP
      clear HQ hbh HTR
      go_enter Try.func42, Try.ntmps42
      go_wp2_with fail
      refine wp_scope_fwd 0 rfl ?_
      go_wp2_with fail
      refine HS.out.mono ?_
      rintro e w1 ⟨rfl, hb1⟩
      have HB1 := Lib.hid hb1
      clear hb1
      go_wp2_with fail
      refine (HTP.out w1).mono ?_
      rintro e w2 ⟨rfl, rfl⟩
      go_wp2_with fail
      refine (wire_begin tp _).mono ?_
      rintro e w3 ⟨rfl, hb3⟩
      obtain ⟨W4, hW4⟩ : ∃ W4, W4 = w3.alloc (.cells #[.string ⟨tp.toArray⟩, .int .i64 0] 73) := ⟨_, rfl⟩
      have b34 : Below w3.heap.size w3 W4 := by rw [hW4]; exact (Below.refl _ _).alloc (Nat.le_refl _) _
      have tx : TBox W4 w3.heap.size 73 #[.string ⟨tp.toArray⟩, .int .i64 0] := by rw [hW4]; exact TBox.new _ _ _
      have hbb := below_trans HB1.out hb3 HB1.out.size
      have hs3 := hbb.size
      have HX := Lib.hid (And.intro (below_trans hbb b34 hs3) (And.intro tx (((HM.out.below HB1.out).below hb3).below b34)))
      have HW4 := Lib.hid hW4
      clear hb3 b34 tx hW4 hbb
      go_wp2_with fail
      rw [← HW4.out]
      refine (HHP.out W4).mono ?_
      rintro e w5 ⟨rfl, hw5⟩
      replace hw5 := hw5.symm
      subst hw5
      have c1 : W4.cell? ⟨w3.heap.size, 1, none⟩ = some (.int .i64 0) := HX.out.2.1.cell 1
      have f1 := HX.out.2.1.free 1
      have t9 := HX.out.2.1.set 1 (.int .i64 3)
      have c2 : (W4.setCell ⟨w3.heap.size, 1, none⟩ (.int .i64 3)).cell? ⟨w3.heap.size, 1, none⟩ = some (.int .i64 3) := t9.cell 1
      have hne : M ≠ w3.heap.size := by omega
      have hfin : q.2 = 3 := by rw [HQ2.out]
      go_wp2_with fail
      go_step3
      try simp only [Exit.jump]
      refine ⟨rfl, fun J => ?_⟩
      go_wp2_with fail
      try simp only [Exit.jump]
      refine bodyPost_ret (v := .int .i64 3) (by simp [results, Try.results42, go_sem]) rfl ⟨by rw [hfin], (OpenW.of HX.out.1).set _ _ _ hs3, msg0, HX.out.2.2.far _ _ _ hne, fun h => absurd (show (3 : Int) = 0 from by rw [hfin] at h; exact h) (by decide)⟩
    | some r =>
      rw [hbh] at HHP
      simp only [Option.isSome_some] at HHP
      obtain rfl := HTR.out r hbh
      have hq := HQ.out
      rw [if_neg (by decide), hbh] at hq
      dsimp only at hq
      obtain ⟨⟨x, s, er2⟩, hst⟩ : ∃ y, msgSt tp 0 = y := ⟨_, rfl⟩
      rw [hst] at hq
      dsimp only at hq
      have HST := Lib.hid hst
      clear HQ hbh HTR hst
      by_cases he2 : er2 = 0
      · subst he2
        rw [if_neg (by decide)] at hq
        cases s with
        | nil =>
          rw [if_neg (by decide)] at hq
          have HQ2 := Lib.hid hq
          clear hq
          go_enter Try.func42, Try.ntmps42
          go_wp2_with fail
          refine wp_scope_fwd 0 rfl ?_
          go_wp2_with fail
          refine HS.out.mono ?_
          rintro e w1 ⟨rfl, hb1⟩
          have HB1 := Lib.hid hb1
          clear hb1
          go_wp2_with fail
          refine (HTP.out w1).mono ?_
          rintro e w2 ⟨rfl, rfl⟩
          go_wp2_with fail
          refine (wire_begin tp _).mono ?_
          rintro e w3 ⟨rfl, hb3⟩
          obtain ⟨W4, hW4⟩ : ∃ W4, W4 = w3.alloc (.cells #[.string ⟨tp.toArray⟩, .int .i64 0] 73) := ⟨_, rfl⟩
          have b34 : Below w3.heap.size w3 W4 := by rw [hW4]; exact (Below.refl _ _).alloc (Nat.le_refl _) _
          have tx : TBox W4 w3.heap.size 73 #[.string ⟨tp.toArray⟩, .int .i64 0] := by rw [hW4]; exact TBox.new _ _ _
          have hbb := below_trans HB1.out hb3 HB1.out.size
          have hs3 := hbb.size
          have HX := Lib.hid (And.intro (below_trans hbb b34 hs3) (And.intro tx (((HM.out.below HB1.out).below hb3).below b34)))
          have HW4 := Lib.hid hW4
          clear hb3 b34 tx hW4 hbb
          go_wp2_with fail
          rw [← HW4.out]
          refine (HHP.out W4).mono ?_
          rintro e w5 ⟨rfl, hw5⟩
          replace hw5 := hw5.symm
          subst hw5
          have hne : M ≠ w3.heap.size := by omega
          have HF := Lib.hid (takeMsg_fill tp 0 w3.heap.size M 73 _ W4 HX.out.2.1 rfl rfl HX.out.2.2 hne (by omega))
          rw [HST.out] at HF
          simp only at HF
          go_wp2_with fail
          refine HF.out.mono ?_
          rintro e w6 ⟨rfl, hk, hmm⟩
          have tx6 : TBox w6 w3.heap.size 73 #[.string ⟨(([] : List UInt8)).toArray⟩, .int .i64 0] := hk.1 _ _ HX.out.2.1
          have HK := Lib.hid (And.intro (OpenW.tk HX.out.1 hk hs3 hM) hmm)
          have x0 : w6.cell? ⟨w3.heap.size, 0, none⟩ = some (.string ⟨(([] : List UInt8)).toArray⟩) := tx6.cell 0
          have x1 : w6.cell? ⟨w3.heap.size, 1, none⟩ = some (.int .i64 0) := tx6.cell 1
          have f1 := tx6.free 1
          clear hk hmm tx6
          go_wp2_with fail
          go_step3
          go_wp2_with fail
          try simp only [Exit.jump]
          refine bodyPost_ret (v := .int .i64 0) (by simp [results, Try.results42, go_sem]) rfl ⟨by rw [HQ2.out], HK.out.1, x, HK.out.2, fun _ => by rw [HQ2.out]⟩
        | cons x0' s' =>
          rw [if_pos (by simp)] at hq
          have HQ2 := Lib.hid hq
          generalize hss : x0' :: s' = s at *
          have hsne : (s == []) = false := by rw [← hss]; rfl
          have hsl : s.length ≠ 0 := by rw [← hss]; simp
          clear hq hss
          go_enter Try.func42, Try.ntmps42
          go_wp2_with fail
          refine wp_scope_fwd 0 rfl ?_
          go_wp2_with fail
          refine HS.out.mono ?_
          rintro e w1 ⟨rfl, hb1⟩
          have HB1 := Lib.hid hb1
          clear hb1
          go_wp2_with fail
          refine (HTP.out w1).mono ?_
          rintro e w2 ⟨rfl, rfl⟩
          go_wp2_with fail
          refine (wire_begin tp _).mono ?_
          rintro e w3 ⟨rfl, hb3⟩
          obtain ⟨W4, hW4⟩ : ∃ W4, W4 = w3.alloc (.cells #[.string ⟨tp.toArray⟩, .int .i64 0] 73) := ⟨_, rfl⟩
          have b34 : Below w3.heap.size w3 W4 := by rw [hW4]; exact (Below.refl _ _).alloc (Nat.le_refl _) _
          have tx : TBox W4 w3.heap.size 73 #[.string ⟨tp.toArray⟩, .int .i64 0] := by rw [hW4]; exact TBox.new _ _ _
          have hbb := below_trans HB1.out hb3 HB1.out.size
          have hs3 := hbb.size
          have HX := Lib.hid (And.intro (below_trans hbb b34 hs3) (And.intro tx (((HM.out.below HB1.out).below hb3).below b34)))
          have HW4 := Lib.hid hW4
          clear hb3 b34 tx hW4 hbb
          go_wp2_with fail
          rw [← HW4.out]
          refine (HHP.out W4).mono ?_
          rintro e w5 ⟨rfl, hw5⟩
          replace hw5 := hw5.symm
          subst hw5
          have hne : M ≠ w3.heap.size := by omega
          have HF := Lib.hid (takeMsg_fill tp 0 w3.heap.size M 73 _ W4 HX.out.2.1 rfl rfl HX.out.2.2 hne (by omega))
          rw [HST.out] at HF
          simp only at HF
          go_wp2_with fail
          refine HF.out.mono ?_
          rintro e w6 ⟨rfl, hk, hmm⟩
          have tx6 : TBox w6 w3.heap.size 73 #[.string ⟨s.toArray⟩, .int .i64 0] := hk.1 _ _ HX.out.2.1
          have HK := Lib.hid (And.intro (OpenW.tk HX.out.1 hk hs3 hM) hmm)
          have x0 : w6.cell? ⟨w3.heap.size, 0, none⟩ = some (.string ⟨s.toArray⟩) := tx6.cell 0
          have x1 : w6.cell? ⟨w3.heap.size, 1, none⟩ = some (.int .i64 0) := tx6.cell 1
          have f1 := tx6.free 1
          have t9 := tx6.set 1 (.int .i64 3)
          have c2 : (w6.setCell ⟨w3.heap.size, 1, none⟩ (.int .i64 3)).cell? ⟨w3.heap.size, 1, none⟩ = some (.int .i64 3) := t9.cell 1
          clear hk hmm tx6 t9
          have hfin : q.2 = 3 := by rw [HQ2.out]
          go_wp2_with fail
          go_step3
          go_wp2_with fail
          try simp only [Exit.jump]
          refine bodyPost_ret (v := .int .i64 3) (by simp [results, Try.results42, go_sem]) rfl ⟨by rw [hfin], HK.out.1.set _ _ _ hs3, x, HK.out.2.far _ _ _ hne, fun h => absurd (show (3 : Int) = 0 from by rw [hfin] at h; exact h) (by decide)⟩
      · rw [if_pos he2] at hq
        have HQ2 := Lib.hid hq
        have hne3 : (er2 == 0) = false := by simpa using he2
        clear hq
        go_enter Try.func42, Try.ntmps42
        go_wp2_with fail
        refine wp_scope_fwd 0 rfl ?_
        go_wp2_with fail
        refine HS.out.mono ?_
        rintro e w1 ⟨rfl, hb1⟩
        have HB1 := Lib.hid hb1
        clear hb1
        go_wp2_with fail
        refine (HTP.out w1).mono ?_
        rintro e w2 ⟨rfl, rfl⟩
        go_wp2_with fail
        refine (wire_begin tp _).mono ?_
        rintro e w3 ⟨rfl, hb3⟩
        obtain ⟨W4, hW4⟩ : ∃ W4, W4 = w3.alloc (.cells #[.string ⟨tp.toArray⟩, .int .i64 0] 73) := ⟨_, rfl⟩
        have b34 : Below w3.heap.size w3 W4 := by rw [hW4]; exact (Below.refl _ _).alloc (Nat.le_refl _) _
        have tx : TBox W4 w3.heap.size 73 #[.string ⟨tp.toArray⟩, .int .i64 0] := by rw [hW4]; exact TBox.new _ _ _
        have hbb := below_trans HB1.out hb3 HB1.out.size
        have hs3 := hbb.size
        have HX := Lib.hid (And.intro (below_trans hbb b34 hs3) (And.intro tx (((HM.out.below HB1.out).below hb3).below b34)))
        have HW4 := Lib.hid hW4
        clear hb3 b34 tx hW4 hbb
        go_wp2_with fail
        rw [← HW4.out]
        refine (HHP.out W4).mono ?_
        rintro e w5 ⟨rfl, hw5⟩
        replace hw5 := hw5.symm
        subst hw5
        have hne : M ≠ w3.heap.size := by omega
        have HF := Lib.hid (takeMsg_fill tp 0 w3.heap.size M 73 _ W4 HX.out.2.1 rfl rfl HX.out.2.2 hne (by omega))
        rw [HST.out] at HF
        simp only at HF
        go_wp2_with fail
        refine HF.out.mono ?_
        rintro e w6 ⟨rfl, hk, hmm⟩
        have tx6 : TBox w6 w3.heap.size 73 #[.string ⟨s.toArray⟩, .int .i64 er2] := hk.1 _ _ HX.out.2.1
        have HK := Lib.hid (And.intro (OpenW.tk HX.out.1 hk hs3 hM) hmm)
        have x0 : w6.cell? ⟨w3.heap.size, 0, none⟩ = some (.string ⟨s.toArray⟩) := tx6.cell 0
        have x1 : w6.cell? ⟨w3.heap.size, 1, none⟩ = some (.int .i64 er2) := tx6.cell 1
        have f1 := tx6.free 1
        clear hk hmm tx6
        go_wp2_with fail
        go_step3
        go_wp2_with fail
        try simp only [Exit.jump]
        refine bodyPost_ret (v := .int .i64 er2) (by simp [results, Try.results42, go_sem]) rfl ⟨by rw [HQ2.out], HK.out.1, x, HK.out.2, fun h => absurd (show er2 = 0 from by rw [HQ2.out] at h; exact h) he2⟩
  · have HQ2 := Lib.hid (show q = (msg0, er) from by rw [HQ.out, if_pos her])
    have hne3 : (er == 0) = false := by simpa using her
    have hne4 : (er != 0) = true := by simpa using her
    clear HQ HTR
    go_enter Try.func42, Try.ntmps42
    go_wp2_with fail
    refine wp_scope_fwd 0 rfl ?_
    go_wp2_with fail
    refine HS.out.mono ?_
    rintro e w1 ⟨rfl, hb1⟩
    have HB1 := Lib.hid hb1
    clear hb1
    go_wp2_with fail
    refine (HTP.out w1).mono ?_
    rintro e w2 ⟨rfl, rfl⟩
    go_wp2_with fail
    refine (wire_begin tp _).mono ?_
    rintro e w3 ⟨rfl, hb3⟩
    obtain ⟨W4, hW4⟩ : ∃ W4, W4 = w3.alloc (.cells #[.string ⟨tp.toArray⟩, .int .i64 0] 73) := ⟨_, rfl⟩
    have b34 : Below w3.heap.size w3 W4 := by rw [hW4]; exact (Below.refl _ _).alloc (Nat.le_refl _) _
    have tx : TBox W4 w3.heap.size 73 #[.string ⟨tp.toArray⟩, .int .i64 0] := by rw [hW4]; exact TBox.new _ _ _
    have hbb := below_trans HB1.out hb3 HB1.out.size
    have hs3 := hbb.size
    have HX := Lib.hid (And.intro (below_trans hbb b34 hs3) (And.intro tx (((HM.out.below HB1.out).below hb3).below b34)))
    have HW4 := Lib.hid hW4
    clear hb3 b34 tx hW4 hbb
    go_wp2_with fail
    rw [← HW4.out]
    try simp only [Exit.jump]
    refine bodyPost_ret (v := .int .i64 er) (by simp [results, Try.results42, go_sem]) rfl ⟨by rw [HQ2.out], OpenW.of HX.out.1, msg0, HX.out.2.2, fun h => absurd (show er = 0 from by rw [HQ2.out] at h; exact h) her⟩
end Go.Proofs.Ytpojhcpkmpbflaa
