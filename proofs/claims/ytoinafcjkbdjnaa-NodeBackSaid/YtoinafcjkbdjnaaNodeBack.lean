/- Proved: copyholdlaw07.NodeBack returns true for every node, every text and every number, and leaves them as they were: what a right node's text tells is taken as it was, whatever stands behind it; no beginning of it is. No condition beyond the form's own reach. -/
import Derived.Test.YtoinafcjkbdjnaaNodeTake
import Derived.Test.YtoinafcjkbdjnaaNodeSame2
import Derived.Test.YtoinafcjkbdjnaaLaw
import Derived.IntWalk
namespace Go.Proofs.Ytoinafcjkbdjnaa.nodeBack
open Go.ChangeShapes Go.WideShapes Go.ChangeAt Go.RowKit Copyhold Copyhold.Name
open Go.ChangeMaps (open_string shut_string)
set_option linter.unusedVariables false
set_option linter.unusedSimpArgs false

set_option maxRecDepth 100000 in
set_option maxHeartbeats 8000000 in
theorem walk (w : World) (ino : Int) (w1' : (Lit.int .i64 ino).wf = true) (kind : Int) (w2' : (Lit.int .i64 kind).wf = true) (links : Int) (w3' : (Lit.int .i64 links).wf = true) (text : List UInt8) (z : text.length ≤ 140737488351232) (lv : Value) (l : List Ent) (hl : Ents w lv l) (hok : OkEnts l) (hn : l.length ≤ 5864062014634)
    (more : List UInt8) (zm : more.length ≤ 140737488351232) (cut : Int) (wc : (Lit.int .i64 cut).wf = true) :
    Calls Try.prog 4 #[.agg #[.int .i64 ino, .int .i64 kind, .int .i64 links, .string ⟨text.toArray⟩, lv], .string ⟨more.toArray⟩, .int .i64 cut] w fun e w' => e = .returned (.bool true) ∧ Below w.heap.size w w' := by
  have o1 := i64ok_of w1'
  have o2 := i64ok_of w2'
  have o3 := i64ok_of w3'
  obtain ⟨oc1, oc2⟩ := i64ok_of wc
  obtain ⟨A, c, rfl, -⟩ := hl.shape
  have ho : OkN ⟨ino, kind, links, text, l⟩ := ⟨o1, o2, o3, z, hok, hn⟩
  have HRN := Lib.hid (fun W (h : Below w.heap.size w W) => ref07_Right ⟨ino, kind, links, text, l⟩ _ W ⟨A, c, rfl, hl.below h⟩ ho)
  have HNV := Lib.hid (fun W (h : Below w.heap.size w W) => (⟨A, c, rfl, hl.below h⟩ : NodeV W (.agg #[.int .i64 ino, .int .i64 kind, .int .i64 links, .string ⟨text.toArray⟩, .slice A l.length c]) ⟨ino, kind, links, text, l⟩))
  obtain ⟨W0, hW0⟩ : ∃ W0, W0 = w.alloc (.cells #[.int .i64 ino, .int .i64 kind, .int .i64 links, .string ⟨text.toArray⟩, .slice A l.length c] 24) := ⟨_, rfl⟩
  have hb0 : Below w.heap.size w W0 := by rw [hW0]; exact (Below.refl _ _).alloc (Nat.le_refl _) _
  have t0 : TBox W0 w.heap.size 24 #[.int .i64 ino, .int .i64 kind, .int .i64 links, .string ⟨text.toArray⟩, .slice A l.length c] := by rw [hW0]; exact TBox.new _ _ _
  have HT0 := Lib.hid t0
  have HW := Lib.hid hW0
  have HB0 := Lib.hid hb0
  have HO := Lib.hid ho
  clear hl hok ho hW0 hb0 t0 w1' w2' w3' wc o1 o2 o3
  by_cases hsm : l.length ≤ 256 ∧ text.length ≤ 4096 ∧ more.length ≤ 1000
  · obtain ⟨s1, s2, s3⟩ := hsm
    have d1 : decide ((256 : Int) < (l.length : Int)) = false := by rw [decide_eq_false_iff_not]; omega
    have d2 : decide ((4096 : Int) < (text.length : Int)) = false := by rw [decide_eq_false_iff_not]; omega
    have d3 : decide ((1000 : Int) < (more.length : Int)) = false := by rw [decide_eq_false_iff_not]; omega
    by_cases hr : rightN ⟨ino, kind, links, text, l⟩ = true
    · have hp := takeNode_parses _ hr HO.out
      obtain ⟨r1, r2, r3⟩ := right_parts hr HO.out
      rw [hr] at HRN
      have HTX := Lib.hid (fun W (h : Below w.heap.size w W) => node_Text ⟨ino, kind, links, text, l⟩ _ W (HNV.out W h) HO.out (fun x hx => by have := (r3 x hx).1; omega) (by simp only; omega) (by simp only; omega))
      have hbl := nodeB_size ⟨ino, kind, links, text, l⟩ HO.out (fun x hx => by have := (r3 x hx).1; omega) (by simp only; omega) (by simp only; omega)
      have hsame := sameN_self ⟨ino, kind, links, text, l⟩
      have hparse := hp.1 more
      have HCUT := Lib.hid hp.2
      obtain ⟨B, hB⟩ : ∃ B, B = nodeB ⟨ino, kind, links, text, l⟩ := ⟨_, rfl⟩
      rw [← hB] at HTX hbl hparse HCUT
      have HTK := Lib.hid (fun W => node_Take (B ++ more) W (by rw [List.length_append]; omega))
      rw [hparse] at HTK
      have HTC := Lib.hid (fun W (k : Nat) => node_Take (B.take k) W (by rw [List.length_take]; omega))
      have HSM := Lib.hid hsame
      clear hp r1 r2 r3 hsame hparse hB hr
      go_enter Try.func4, Try.ntmps4
      go_wp2_with fail
      rw [← HW.out]
      refine (law_shown _).mono ?_
      rintro e w1 ⟨rfl, hb1⟩
      have HT1 := Lib.hid (HT0.out.below hb1)
      have HB1 := Lib.hid (below_trans HB0.out hb1 HB0.out.size)
      clear hb1
      have e0 : w1.cell? ⟨w.heap.size, 0, none⟩ = some (.int .i64 ino) := HT1.out.cell 0
      have e1 : w1.cell? ⟨w.heap.size, 1, none⟩ = some (.int .i64 kind) := HT1.out.cell 1
      have e2 : w1.cell? ⟨w.heap.size, 2, none⟩ = some (.int .i64 links) := HT1.out.cell 2
      have e3 : w1.cell? ⟨w.heap.size, 3, none⟩ = some (.string ⟨text.toArray⟩) := HT1.out.cell 3
      have e4 : w1.cell? ⟨w.heap.size, 4, none⟩ = some (.slice A l.length c) := HT1.out.cell 4
      go_wp2_with fail
      refine (HRN.out _ HB1.out).mono ?_
      rintro e w2 ⟨rfl, hb2⟩
      have HT2 := Lib.hid (HT1.out.below hb2)
      have HB2 := Lib.hid (below_trans HB1.out hb2 HB1.out.size)
      clear hb2 e0 e1 e2 e3 e4
      have e0 : w2.cell? ⟨w.heap.size, 0, none⟩ = some (.int .i64 ino) := HT2.out.cell 0
      have e1 : w2.cell? ⟨w.heap.size, 1, none⟩ = some (.int .i64 kind) := HT2.out.cell 1
      have e2 : w2.cell? ⟨w.heap.size, 2, none⟩ = some (.int .i64 links) := HT2.out.cell 2
      have e3 : w2.cell? ⟨w.heap.size, 3, none⟩ = some (.string ⟨text.toArray⟩) := HT2.out.cell 3
      have e4 : w2.cell? ⟨w.heap.size, 4, none⟩ = some (.slice A l.length c) := HT2.out.cell 4
      go_wp2_with fail
      refine (HTX.out _ HB2.out).mono ?_
      rintro e w3 ⟨rfl, hb3⟩
      have HT3 := Lib.hid (HT2.out.below hb3)
      have HB3 := Lib.hid (below_trans HB2.out hb3 HB2.out.size)
      clear hb3 e0 e1 e2 e3 e4
      go_wp2_with fail
      refine (HTK.out _).mono ?_
      rintro e w4 ⟨v4, rfl, hv4, hb4⟩
      have HT4 := Lib.hid (HT3.out.below hb4)
      have HB4 := Lib.hid (below_trans HB3.out hb4 HB3.out.size)
      simp only at hv4
      obtain ⟨A4, c4, rfl, hE4⟩ := hv4
      simp only at hE4
      obtain ⟨W5, hW5⟩ : ∃ W5, W5 = w4.alloc (.cells #[.int .i64 ino, .int .i64 kind, .int .i64 links, .string ⟨text.toArray⟩, .slice A4 l.length c4] 24) := ⟨_, rfl⟩
      have b45 : Below w4.heap.size w4 W5 := by rw [hW5]; exact (Below.refl _ _).alloc (Nat.le_refl _) _
      have HB5 := Lib.hid (below_trans HB4.out b45 HB4.out.size)
      have HRS := Lib.hid (ref07_Same ⟨ino, kind, links, text, l⟩ ⟨ino, kind, links, text, l⟩ _ _ W5 ⟨A4, c4, rfl, hE4.below b45⟩ (HNV.out W5 HB5.out) HO.out HO.out (by simp only; omega) (by simp only; omega))
      rw [HSM.out] at HRS
      have HW5 := Lib.hid hW5
      have hs4 := HT4.out.lt
      have e0 : w4.cell? ⟨w.heap.size, 0, none⟩ = some (.int .i64 ino) := HT4.out.cell 0
      have e1 : w4.cell? ⟨w.heap.size, 1, none⟩ = some (.int .i64 kind) := HT4.out.cell 1
      have e2 : w4.cell? ⟨w.heap.size, 2, none⟩ = some (.int .i64 links) := HT4.out.cell 2
      have e3 : w4.cell? ⟨w.heap.size, 3, none⟩ = some (.string ⟨text.toArray⟩) := HT4.out.cell 3
      have e4 : w4.cell? ⟨w.heap.size, 4, none⟩ = some (.slice A l.length c) := HT4.out.cell 4
      clear hb4 hE4 hW5 b45
      go_wp2_with fail
      rw [← HW5.out]
      refine HRS.out.mono ?_
      rintro e w6 ⟨rfl, hb6⟩
      have HB6 := Lib.hid (below_trans HB5.out hb6 HB5.out.size)
      clear hb6 e0 e1 e2 e3 e4 hs4
      by_cases hc : 0 ≤ cut ∧ cut < (B.length : Int)
      · obtain ⟨hc0, hc1⟩ := hc
        obtain ⟨k, rfl⟩ := Int.eq_ofNat_of_zero_le hc0
        simp only [Int.ofNat_eq_natCast] at hc0 hc1 oc1 oc2 ⊢
        have hk : k < B.length := by omega
        have HKC := Lib.hid (HTC.out · k)
        have htk := HCUT.out k hk
        have hpc : (⟨B.toArray⟩ : ByteArray).extract 0 k = ⟨(B.take k).toArray⟩ := piece B 0 k
        obtain ⟨x, hx⟩ : ∃ x, x = takeNode (B.take k) := ⟨_, rfl⟩
        rw [← hx] at htk
        simp only [← hx] at HKC
        obtain ⟨n7, s7, e7⟩ := x
        simp only [Prod.mk.injEq] at htk
        obtain ⟨rfl, rfl⟩ := htk
        have hkd : decide ((B.length : Int) ≤ (k : Int)) = false := by rw [decide_eq_false_iff_not]; omega
        clear hx
        go_wp2_with fail
        refine (HKC.out w6).mono ?_
        rintro e w7 ⟨v7, rfl, hv7, hb7⟩
        have HB7 := Lib.hid (below_trans HB6.out hb7 HB6.out.size)
        obtain ⟨i7, k7, l7, t7, en7⟩ := n7
        obtain ⟨A7, c7, rfl, -⟩ := hv7
        clear hb7
        go_wp2_with fail
        go_ret
        exact ⟨rfl, HB7.out.alloc HB7.out.size _⟩
      · rcases (show cut < 0 ∨ 0 ≤ cut ∧ (B.length : Int) ≤ cut from by omega) with h | ⟨h, h'⟩
        all_goals
          clear hc
          go_wp2_with fail
          go_ret
          exact ⟨rfl, HB6.out⟩
    · have hr' : rightN ⟨ino, kind, links, text, l⟩ = false := by simpa using hr
      rw [hr'] at HRN
      clear hr hr'
      go_enter Try.func4, Try.ntmps4
      go_wp2_with fail
      rw [← HW.out]
      refine (law_shown _).mono ?_
      rintro e w1 ⟨rfl, hb1⟩
      have HT1 := Lib.hid (HT0.out.below hb1)
      have HB1 := Lib.hid (below_trans HB0.out hb1 HB0.out.size)
      clear hb1
      have e0 : w1.cell? ⟨w.heap.size, 0, none⟩ = some (.int .i64 ino) := HT1.out.cell 0
      have e1 : w1.cell? ⟨w.heap.size, 1, none⟩ = some (.int .i64 kind) := HT1.out.cell 1
      have e2 : w1.cell? ⟨w.heap.size, 2, none⟩ = some (.int .i64 links) := HT1.out.cell 2
      have e3 : w1.cell? ⟨w.heap.size, 3, none⟩ = some (.string ⟨text.toArray⟩) := HT1.out.cell 3
      have e4 : w1.cell? ⟨w.heap.size, 4, none⟩ = some (.slice A l.length c) := HT1.out.cell 4
      go_wp2_with fail
      refine (HRN.out _ HB1.out).mono ?_
      rintro e w2 ⟨rfl, hb2⟩
      have HB2 := Lib.hid (below_trans HB1.out hb2 HB1.out.size)
      clear hb2 e0 e1 e2 e3 e4
      go_wp2_with fail
      go_ret
      exact ⟨rfl, HB2.out⟩
  · rcases (show 256 < l.length ∨ l.length ≤ 256 ∧ 4096 < text.length ∨ l.length ≤ 256 ∧ text.length ≤ 4096 ∧ 1000 < more.length from by omega) with h | ⟨h, h'⟩ | ⟨h, h', h''⟩
    all_goals
      clear hsm
      go_enter Try.func4, Try.ntmps4
      go_wp2_with fail
      rw [← HW.out]
      refine (law_shown _).mono ?_
      rintro e w1 ⟨rfl, hb1⟩
      have HT1 := Lib.hid (HT0.out.below hb1)
      have HB1 := Lib.hid (below_trans HB0.out hb1 HB0.out.size)
      clear hb1
      have e3 : w1.cell? ⟨w.heap.size, 3, none⟩ = some (.string ⟨text.toArray⟩) := HT1.out.cell 3
      have e4 : w1.cell? ⟨w.heap.size, 4, none⟩ = some (.slice A l.length c) := HT1.out.cell 4
      go_wp2_with fail
      go_ret
      exact ⟨rfl, HB1.out⟩
theorem own : ownKnob Try.prog.godebug = none := by kernel_rfl
theorem laidOut : laidOutB Try.prog = true := by kernel_rfl
theorem cellscopyhold_api_Node : Try.prog.cellsOf 24 = 5 := by kernel_rfl
theorem cellsint : Try.prog.cellsOf 3 = 1 := by kernel_rfl
theorem cellsstring : Try.prog.cellsOf 9 = 1 := by kernel_rfl
theorem cells__api_Entry : Try.prog.cellsOf 22 = 1 := by kernel_rfl

set_option maxRecDepth 100000 in
set_option maxHeartbeats 1000000 in
theorem lifted (os : Os) (started : os.Started) (H : Type) (enc : TypeId × Value → H) :
    ReturnsInHanded {} Try.checked os 4 .any (Rows.nodeBackSpec.pre6 enc Try.prog Try.f4 Rows.nodeBackRow.domain false) (Rows.nodeBackSpec.post enc Try.prog Try.f4 false true false false) := by
  refine returnsInHanded_of_change_sized (C := Try.checked) own started (by kernel_rfl) Try.func4
    (ChangeSpec.witness6 (enc := enc) (C := Try.checked) false ⟨#[], #[.agg #[.int .i64 0, .int .i64 0, .int .i64 0, .string ByteArray.empty, .slice none 0 0], .string ByteArray.empty, .int .i64 0], []⟩ 8 (by kernel_rfl) (by kernel_rfl) (by kernel_rfl) (by kernel_rfl)) ?_
  intro W base args ds gs before hval0 hW hcnd hsz0 _
  have hsz : (DataW.weightsEach Try.prog (Try.f4.params.toList ++ []) (ds ++ gs)).all (· ≤ reachBytes) = true := hsz0
  clear hsz0
  have hval : ∀ (j : Nat) t v, Try.f4.params[j]? = some t → args[j]? = some v → Value.okWide Try.prog W .any base t v := hval0
  have hW' := hW
  have hlt := hW.lt
  obtain ⟨p, q, hA0, hV, rfl, hfz, hnd⟩ := hW
  have hA : DataW.TrodAll enc Try.prog W 0 (fun _ => true) true Try.f4.params.toList args.toList ds p := hA0
  rw [Try.params4] at hA hval
  obtain ⟨v0, vs0, d0, ds0, p0, q0, hargs, rfl, rfl, h0, r0⟩ := trodAll_cons hA
  obtain ⟨v1, vs1, d1, ds1, p1, q1, rfl, rfl, rfl, h1, r1⟩ := trodAll_cons r0
  obtain ⟨v2, vs2, d2, ds2, p2, q2, rfl, rfl, rfl, h2, r2⟩ := trodAll_cons r1
  obtain ⟨rfl, rfl, rfl⟩ := trodAll_nil r2
  obtain rfl : args = #[v0, v1, v2] := by cases args; simp_all
  obtain ⟨rfl, rfl⟩ := trodVars_none hV
  obtain ⟨cs0, rfl, hcz0⟩ := okWide_struct Try.underlying24 (hval 0 24 v0 rfl rfl)
  rw [cellscopyhold_api_Node] at hcz0
  obtain ⟨c0_0, c0_1, c0_2, c0_3, c0_4, rfl⟩ := array5_of hcz0
  obtain ⟨fuel0, hf0⟩ := h0
  obtain ⟨xs0, m0, _, hx0, _, hlen0, hfl0⟩ := DataW.trod_struct Try.underlying24 hf0
  obtain ⟨y0_0, y0_1, y0_2, y0_3, y0_4, rfl⟩ := list5 hlen0
  have g0_0 : DataW.trod enc Try.prog W 0 (fun _ => true) true m0 3 [c0_0] = some y0_0 := by have h := hfl0 0 _ rfl; simpa [Value.cells, cellsint] using h
  have g0_1 : DataW.trod enc Try.prog W 0 (fun _ => true) true m0 3 [c0_1] = some y0_1 := by have h := hfl0 1 _ rfl; simpa [Value.cells, cellsint] using h
  have g0_2 : DataW.trod enc Try.prog W 0 (fun _ => true) true m0 3 [c0_2] = some y0_2 := by have h := hfl0 2 _ rfl; simpa [Value.cells, cellsint] using h
  have g0_3 : DataW.trod enc Try.prog W 0 (fun _ => true) true m0 9 [c0_3] = some y0_3 := by have h := hfl0 3 _ rfl; simpa [Value.cells, cellsstring] using h
  have g0_4 : DataW.trod enc Try.prog W 0 (fun _ => true) true m0 22 [c0_4] = some y0_4 := by have h := hfl0 4 _ rfl; simpa [Value.cells, cells__api_Entry] using h
  simp only [Prod.mk.injEq] at hx0
  obtain ⟨rfl, hp0⟩ := hx0
  subst hp0
  obtain ⟨a0_0, ev0_0, ey0_0, w0_0⟩ := DataW.trod_int Try.underlying3 g0_0
  obtain rfl : c0_0 = _ := by simpa using ev0_0
  subst ey0_0
  obtain ⟨a0_1, ev0_1, ey0_1, w0_1⟩ := DataW.trod_int Try.underlying3 g0_1
  obtain rfl : c0_1 = _ := by simpa using ev0_1
  subst ey0_1
  obtain ⟨a0_2, ev0_2, ey0_2, w0_2⟩ := DataW.trod_int Try.underlying3 g0_2
  obtain rfl : c0_2 = _ := by simpa using ev0_2
  subst ey0_2
  obtain ⟨s0_3, ev0_3, ey0_3, w0_3⟩ := DataW.trod_string Try.underlying9 g0_3
  obtain rfl : c0_3 = _ := by simpa using ev0_3
  subst ey0_3
  have z0_3 : s0_3.data.toList.length ≤ 140737488351232 := sized_deep hsz (by rw [Try.params4]; simp [DataW.weightsEach, DataW.weights, Try.underlying24])
  obtain ⟨a0_3, rfl⟩ : ∃ l : List UInt8, s0_3 = ⟨l.toArray⟩ := ⟨s0_3.data.toList, rfl⟩
  have hw0_4 : ∀ n ∈ DataW.weights Try.prog 22 y0_4.1, n ≤ 140737488351232 := fun n hn => sized_deep hsz (by rw [Try.params4]; simp [DataW.weightsEach, DataW.weights, Try.underlying24, hn])
  obtain ⟨u0_4, a0_4, ev0_4, f0_4_0, f0_4_1, f0_4_2⟩ := open_ents g0_4 (fun x hx => hlt x (by simp [hx])) hw0_4
  obtain rfl : c0_4 = _ := by simpa using ev0_4
  obtain ⟨s1, rfl, rfl, rfl, w1⟩ := open_string Try.underlying9 (hval 1 9 v1 rfl rfl) h1
  have z1 : s1.data.toList.length ≤ 140737488351232 := sized_string hsz (j := 1) (t := 9) (by rw [Try.params4]; rfl) rfl
  obtain ⟨a1, rfl⟩ : ∃ l : List UInt8, s1 = ⟨l.toArray⟩ := ⟨s1.data.toList, rfl⟩
  obtain ⟨a2, rfl, rfl, rfl, w2⟩ := open_int Try.underlying3 (hval 2 3 v2 rfl rfl) h2
  refine (walk W a0_0 w0_0 a0_1 w0_1 a0_2 w0_2 a0_3 z0_3 c0_4 a0_4 f0_4_0 f0_4_1 f0_4_2 a1 z1 a2 w2).mono fun e W' ⟨he, hg⟩ => ?_
  subst he
  exact ⟨_, rfl, Copyhold.law_post laidOut (by kernel_rfl) (by kernel_rfl) Try.underlying4 rfl rfl rfl rfl hW' hg⟩

theorem over : Rows.nodeBackRow.holds Try.pinned (OpenSpec.ofChange Rows.nodeBackSpec) :=
  OpenClaim.holds_of_wide 4 Try.f4 rfl rfl rfl rfl rfl rfl rfl ⟨rfl, rfl, rfl, rfl, rfl⟩ rfl rfl rfl rfl rfl (by kernel_rfl) Try.func4 (by kernel_rfl)
    (of_decide_eq_true (by kernel_rfl)) (by unfold Func.isWrapper; first | (rw [if_pos (by decide +kernel)]; kernel_rfl) | (rw [if_neg (by decide +kernel)]; exact ⟨rfl, rfl⟩))
    (fun os started H enc _ => lifted os started H enc)

theorem proved : Rows.NodeBackSaid :=
  over
end Go.Proofs.Ytoinafcjkbdjnaa.nodeBack
