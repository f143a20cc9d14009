/- Proved: copyholdlaw04.DiskStretches returns true for every disk and numbers, and leaves them as they were: some sectors are those that are read one by one, one behind the other. No condition beyond the form's own reach. -/
import Derived.Test.YtahnkkmngbckdaaDisk15
namespace Go.Proofs.Ytahnkkmngbckdaa.diskStretches
open Go.ChangeShapes Go.WideShapes Go.ChangeAt Go.RowKit Copyhold Copyhold.Disk
open Go.ChangeMaps (open_string shut_string)
set_option linter.unusedVariables false
set_option linter.unusedSimpArgs false

set_option maxRecDepth 100000 in
set_option maxHeartbeats 16000000 in
theorem walk (w : World) (kv : Value) (kept : List (List UInt8)) (hk : Row w kv (kept.map strV)) (hkl : kept.length ≤ 8796093022207 ∧ ∀ l ∈ kept, l.length ≤ 140737488351232) (pv : Value) (ws : List PutW) (hp : Puts w pv ws) (hpo : OkPuts ws) (hpl : ws.length ≤ 5864062014634) (off : Bool) (at' : Int) (wa : (Lit.int .i64 at').wf = true) (many : Int) (wm : (Lit.int .i64 many).wf = true) :
    Calls Try.prog 8 #[.agg #[kv, pv, .bool off], .int .i64 at', .int .i64 many] w fun e w' => e = .returned (.bool true) ∧ Below w.heap.size w w' := by
  obtain ⟨A, c, rfl⟩ := hk.shape
  obtain ⟨B, e0, rfl, -⟩ := hp.shape
  rw [List.length_map] at hk ⊢
  have hv : DiskV w (.agg #[.slice A kept.length c, .slice B ws.length e0, .bool off]) ⟨kept, ws, off⟩ := ⟨A, c, B, e0, rfl, hk, hp⟩
  have hok : OkD ⟨kept, ws, off⟩ := ⟨by have := hkl.1; simp only; omega, hkl.2, hpo, hpl⟩
  have hn : kept.length ≤ 8796093022208 := hok.1
  have ba := i64_of wa
  have bm := i64_of wm
  clear wa wm
  have HFW := Lib.hid (fun v W hv => law_few ⟨kept, ws, off⟩ v W hv hok)
  obtain ⟨wu1, hu1⟩ : ∃ u, u = w.alloc (.cells #[.slice A kept.length c, .slice B ws.length e0, .bool off] 25) := ⟨_, rfl⟩
  have su1 : wu1.heap.size = w.heap.size + 1 := by rw [hu1]; simp
  have tu1 : TBox wu1 (w.heap.size) 25 #[.slice A kept.length c, .slice B ws.length e0, .bool off] := by rw [hu1]; exact TBox.new _ _ _
  have bu1 : Below w.heap.size w wu1 := by rw [hu1]; exact (Below.refl _ _).alloc (Nat.le_refl _) _
  have BU1 := bu1
  have Hd0 := Lib.hid tu1
  have BW_0 := Lib.hid BU1
  have HW : Hid (wu1 = (w.alloc (.cells #[.slice A kept.length c, .slice B ws.length e0, .bool off] 25))) := Lib.hid (by rw [hu1])
  have HSZ := Lib.hid su1
  obtain ⟨W0, hW0⟩ : ∃ u, u = wu1 := ⟨_, rfl⟩
  rw [← hW0] at Hd0 BW_0 HW HSZ
  clear hW0 hu1 su1 tu1 bu1 BU1
  have Rd0 := Lib.hid (hv.below BW_0.out)
  clear hv hk hp
  go_enter Try.func8, Try.ntmps8
  go_wp2_with fail
  rw [← HW.out]
  refine (law_shown _).mono ?_
  rintro e w1 ⟨rfl, hb⟩
  have Hd_1 := Lib.hid (Hd0.out.below hb)
  have Rd_1 := Lib.hid (Rd0.out.below hb)
  have BW_1 := Lib.hid (below_trans BW_0.out hb BW_0.out.size)
  clear hb 
  have cd_0 : w1.cell? ⟨w.heap.size, 0, none⟩ = some (.slice A kept.length c) := Hd_1.out.cell 0
  have cd_1 : w1.cell? ⟨w.heap.size, 1, none⟩ = some (.slice B ws.length e0) := Hd_1.out.cell 1
  have cd_2 : w1.cell? ⟨w.heap.size, 2, none⟩ = some (.bool off) := Hd_1.out.cell 2
  go_wp2_with fail
  refine (HFW.out _ _ Rd_1.out).mono ?_
  rintro e w2 ⟨rfl, hb⟩
  have Hd_2 := Lib.hid (Hd_1.out.below hb)
  have Rd_2 := Lib.hid (Rd_1.out.below hb)
  have BW_2 := Lib.hid (below_trans BW_1.out hb BW_1.out.size)
  clear hb 
  clear cd_0 cd_1 cd_2
  cases hf : fewB ⟨kept, ws, off⟩ with
  | false =>
    have HFF := Lib.hid hf
    clear hf
    go_wp2_with fail
    go_ret
    exact ⟨rfl, BW_2.out⟩
  | true =>
    obtain ⟨hk50, hw50, hR⟩ : kept.length ≤ 50 ∧ ws.length ≤ 50 ∧ Right ⟨kept, ws, off⟩ := of_decide_eq_true hf
    clear hf
    have HS1 := Lib.hid (fun v W hv => disk_Stretch _ v at' many W hv hok hR ba bm)
    by_cases hz : (stretchD ⟨kept, ws, off⟩ at' many).2 = 0
    · have hg : off = false ∧ 0 ≤ at' ∧ 0 ≤ many ∧ at' ≤ (kept.length : Int) ∧ many ≤ (kept.length : Int) - at' ∧ (stretchD ⟨kept, ws, off⟩ at' many).1 = (((imageL ⟨kept, ws, off⟩).drop at'.toNat).take many.toNat).flatten := by
        revert hz
        unfold stretchD
        split
        · intro h; simp at h
        · rename_i hoff
          split
          · intro h; simp at h
          · rename_i hb
            intro _
            refine ⟨by simpa using hoff, ?_⟩
            simp only at hb
            refine ⟨by omega, by omega, by omega, by omega, rfl⟩
      obtain ⟨rfl, g1, g2, g3, g4, hs1⟩ := hg
      obtain ⟨i, rfl⟩ := Int.eq_ofNat_of_zero_le g1
      obtain ⟨n, rfl⟩ := Int.eq_ofNat_of_zero_le g2
      simp only [Int.toNat_natCast] at hs1
      have hil := image_len ⟨kept, ws, false⟩
      have h64 := image64 hR
      have HRD : Hid (∀ j : Nat, j < n → ∀ v W, DiskV W v ⟨kept, ws, false⟩ → Calls Try.prog 15 #[v, .int .i64 ((i : Int) + (j : Int))] W fun e w' => e = .returned (.tuple #[.string ⟨((imageL ⟨kept, ws, false⟩).getD (i + j) []).toArray⟩, .int .i64 0]) ∧ Below W.heap.size W w') := Lib.hid (fun j hj v W hv => by
        have h := disk_Read _ v ((i : Int) + (j : Int)) W hv hok
        have hrd : readD ⟨kept, ws, false⟩ ((i : Int) + (j : Int)) = ((imageL ⟨kept, ws, false⟩).getD (i + j) [], 0) := by
          unfold readD refusedD
          rw [(thereB_iff _ _).2 ⟨by omega, by simp only; omega⟩]
          rw [show ((i : Int) + (j : Int)).toNat = i + j from by omega]
          rfl
        rw [hrd] at h
        exact h)
      generalize stretchD ⟨kept, ws, false⟩ (i : Int) (n : Int) = sd at *
      obtain ⟨ss, se⟩ := sd
      simp only at hs1 hz HS1 hil
      subst hz hs1
      generalize imageL ⟨kept, ws, false⟩ = im at *
      have him : i + n ≤ im.length := by omega
      have hflat : ∀ j, j ≤ n → ((im.drop i).take j).flatten.length = 64 * j := fun j hj => by
        rw [flat64 _ (fun x hx => h64 x (List.mem_of_mem_drop (List.mem_of_mem_take hx)))]
        rw [List.length_take, List.length_drop]
        omega
      have hn50 : n ≤ 50 := by omega
      have HFL := Lib.hid hflat
      have H64 := Lib.hid h64
      clear hR hflat h64 hil
      have cd_0 : w2.cell? ⟨w.heap.size, 0, none⟩ = some (.slice A kept.length c) := Hd_2.out.cell 0
      have cd_1 : w2.cell? ⟨w.heap.size, 1, none⟩ = some (.slice B ws.length e0) := Hd_2.out.cell 1
      have cd_2 : w2.cell? ⟨w.heap.size, 2, none⟩ = some (.bool false) := Hd_2.out.cell 2
      go_wp2_with fail
      refine (HS1.out _ _ Rd_2.out).mono ?_
      rintro e w3 ⟨rfl, hb⟩
      have Hd_3 := Lib.hid (Hd_2.out.below hb)
      have Rd_3 := Lib.hid (Rd_2.out.below hb)
      have BW_3 := Lib.hid (below_trans BW_2.out hb BW_2.out.size)
      clear hb 
      clear cd_0 cd_1 cd_2
      generalize hss : ((im.drop i).take n).flatten = ss at *
      have HSS := Lib.hid hss
      clear hss
      go_wp2_with fail
      go_loopw [11, 12] (fun tv iv wr => ∃ j : Nat, j ≤ n ∧ iv = .int .i64 (j : Int) ∧ tv = .string ⟨(((im.drop i).take j).flatten).toArray⟩ ∧ Below w3.heap.size w3 wr) (fun _ iv _ => n - (intOf iv).toNat)
      case atStart => exact ⟨0, Nat.zero_le _, rfl, by simp, Below.refl _ _⟩
      case round =>
        obtain ⟨j, hj, rfl, rfl, hbw⟩ := hrel
        have HBW := Lib.hid hbw
        have tw := Hd_3.out.below hbw
        have d0 : wr.cell? ⟨w.heap.size, 0, none⟩ = some (.slice A kept.length c) := tw.cell 0
        have d1 : wr.cell? ⟨w.heap.size, 1, none⟩ = some (.slice B ws.length e0) := tw.cell 1
        have d2 : wr.cell? ⟨w.heap.size, 2, none⟩ = some (.bool false) := tw.cell 2
        have hjl := HFL.out j hj
        clear hbw tw
        by_cases hlt : j < n
        · have hij : i + j < im.length := by omega
          have hst : ((im.drop i).take (j + 1)).flatten = ((im.drop i).take j).flatten ++ im[i + j] := by
            rw [List.take_succ_eq_append_getElem (by rw [List.length_drop]; omega), List.flatten_append, List.getElem_drop]
            simp
          have HST := Lib.hid hst
          have hx := H64.out im[i + j] (List.getElem_mem hij)
          have HR := Lib.hid (HRD.out j hlt _ wr (Rd_3.out.below HBW.out))
          rw [show im.getD (i + j) [] = im[i + j] from by simp [List.getD, hij]] at HR
          have hji : (j : Int) < (n : Int) := by omega
          clear hst
          generalize ((im.drop i).take j).flatten = t at *
          generalize im[i + j] = xx at *
          have hq : ¬ 9223372036854775807 < t.length + xx.length := by omega
          go_wp2_with fail
          refine HR.out.mono ?_
          rintro e w9 ⟨rfl, hb9⟩
          have HB9 := Lib.hid (below_trans HBW.out hb9 HBW.out.size)
          clear hb9 d0 d1 d2
          go_wp2_with fail
          go_roundw
          case rel => exact ⟨j + 1, by omega, by go_num, by rw [HST.out], HB9.out⟩
          case measure => simp [intOf]; omega
        · obtain rfl : j = n := by omega
          rw [HSS.out] at hjl ⊢
          have hli : (ss.length : Int) = 64 * (j : Int) := by omega
          have hmul : ((ss.length : Int) == 64 * (j : Int)) = true := by rw [hli]; simp
          clear d0 d1 d2
          go_wp2_with fail
          go_ret
          exact ⟨by simp [hli], below_trans BW_3.out HBW.out BW_3.out.size⟩
    · have hs1 : (stretchD ⟨kept, ws, off⟩ at' many).1 = [] := by
        revert hz
        unfold stretchD
        split
        · intro _; rfl
        · split
          · intro _; rfl
          · intro h; exact absurd rfl h
      generalize stretchD ⟨kept, ws, off⟩ at' many = sd at *
      obtain ⟨ss, se⟩ := sd
      simp only at hs1 hz HS1
      subst hs1
      have hne : (se != 0) = true := by simpa using hz
      clear hR
      have cd_0 : w2.cell? ⟨w.heap.size, 0, none⟩ = some (.slice A kept.length c) := Hd_2.out.cell 0
      have cd_1 : w2.cell? ⟨w.heap.size, 1, none⟩ = some (.slice B ws.length e0) := Hd_2.out.cell 1
      have cd_2 : w2.cell? ⟨w.heap.size, 2, none⟩ = some (.bool off) := Hd_2.out.cell 2
      go_wp2_with fail
      refine (HS1.out _ _ Rd_2.out).mono ?_
      rintro e w3 ⟨rfl, hb⟩
      have Hd_3 := Lib.hid (Hd_2.out.below hb)
      have Rd_3 := Lib.hid (Rd_2.out.below hb)
      have BW_3 := Lib.hid (below_trans BW_2.out hb BW_2.out.size)
      clear hb 
      clear cd_0 cd_1 cd_2
      go_wp2_with fail
      go_ret
      exact ⟨rfl, BW_3.out⟩
theorem own : ownKnob Try.prog.godebug = none := by kernel_rfl
theorem laidOut : laidOutB Try.prog = true := by kernel_rfl
theorem cellscopyhold_api_Disk : Try.prog.cellsOf 25 = 3 := by kernel_rfl
theorem cells__string : Try.prog.cellsOf 22 = 1 := by kernel_rfl
theorem cells__api_Put : Try.prog.cellsOf 23 = 1 := by kernel_rfl
theorem cellsbool : Try.prog.cellsOf 4 = 1 := by kernel_rfl

set_option maxRecDepth 100000 in
set_option maxHeartbeats 1000000 in
theorem lifted (os : Os) (started : os.Started) (H : Type) (enc : TypeId × Value → H) :
    ReturnsInHanded {} Try.checked os 8 .any (Rows.diskStretchesSpec.pre6 enc Try.prog Try.f8 Rows.diskStretchesRow.domain false) (Rows.diskStretchesSpec.post enc Try.prog Try.f8 false true false false) := by
  refine returnsInHanded_of_change_sized (C := Try.checked) own started (by kernel_rfl) Try.func8
    (ChangeSpec.witness6 (enc := enc) (C := Try.checked) false ⟨#[], #[.agg #[.slice none 0 0, .slice none 0 0, .bool false], .int .i64 0, .int .i64 0], []⟩ 8 (by kernel_rfl) (by kernel_rfl) (by kernel_rfl) (by kernel_rfl)) ?_
  intro W base args ds gs before hval0 hW hcnd hsz0 _
  have hsz : (DataW.weightsEach Try.prog (Try.f8.params.toList ++ []) (ds ++ gs)).all (· ≤ reachBytes) = true := hsz0
  clear hsz0
  have hval : ∀ (j : Nat) t v, Try.f8.params[j]? = some t → args[j]? = some v → Value.okWide Try.prog W .any base t v := hval0
  have hW' := hW
  have hlt := hW.lt
  obtain ⟨p, q, hA0, hV, rfl, hfz, hnd⟩ := hW
  have hA : DataW.TrodAll enc Try.prog W 0 (fun _ => true) true Try.f8.params.toList args.toList ds p := hA0
  rw [Try.params8] at hA hval
  obtain ⟨v0, vs0, d0, ds0, p0, q0, hargs, rfl, rfl, h0, r0⟩ := trodAll_cons hA
  obtain ⟨v1, vs1, d1, ds1, p1, q1, rfl, rfl, rfl, h1, r1⟩ := trodAll_cons r0
  obtain ⟨v2, vs2, d2, ds2, p2, q2, rfl, rfl, rfl, h2, r2⟩ := trodAll_cons r1
  obtain ⟨rfl, rfl, rfl⟩ := trodAll_nil r2
  obtain rfl : args = #[v0, v1, v2] := by cases args; simp_all
  obtain ⟨rfl, rfl⟩ := trodVars_none hV
  obtain ⟨cs0, rfl, hcz0⟩ := okWide_struct Try.underlying25 (hval 0 25 v0 rfl rfl)
  rw [cellscopyhold_api_Disk] at hcz0
  obtain ⟨c0_0, c0_1, c0_2, rfl⟩ := array3_of hcz0
  obtain ⟨fuel0, hf0⟩ := h0
  obtain ⟨xs0, m0, _, hx0, _, hlen0, hfl0⟩ := DataW.trod_struct Try.underlying25 hf0
  obtain ⟨y0_0, y0_1, y0_2, rfl⟩ := list3 hlen0
  have g0_0 : DataW.trod enc Try.prog W 0 (fun _ => true) true m0 22 [c0_0] = some y0_0 := by have h := hfl0 0 _ rfl; simpa [Value.cells, cells__string] using h
  have g0_1 : DataW.trod enc Try.prog W 0 (fun _ => true) true m0 23 [c0_1] = some y0_1 := by have h := hfl0 1 _ rfl; simpa [Value.cells, cells__api_Put] using h
  have g0_2 : DataW.trod enc Try.prog W 0 (fun _ => true) true m0 4 [c0_2] = some y0_2 := by have h := hfl0 2 _ rfl; simpa [Value.cells, cellsbool] using h
  simp only [Prod.mk.injEq] at hx0
  obtain ⟨rfl, hp0⟩ := hx0
  subst hp0
  have hw0_0 : ∀ n ∈ DataW.weights Try.prog 22 y0_0.1, n ≤ 140737488351232 := fun n hn => sized_deep hsz (by rw [Try.params8]; simp [DataW.weightsEach, DataW.weights, Try.underlying25, hn])
  obtain ⟨u0_0, a0_0, ev0_0, w0_0, e0_0⟩ := open_texts_at Try.underlying22 Try.underlying9 (by kernel_rfl) g0_0 (fun x hx => hlt x (by simp [hx]))
  obtain rfl : c0_0 = _ := by simpa using ev0_0
  have z0_0 := texts_sized Try.underlying22 (by kernel_rfl) e0_0 hw0_0
  have hw0_1 : ∀ n ∈ DataW.weights Try.prog 23 y0_1.1, n ≤ 140737488351232 := fun n hn => sized_deep hsz (by rw [Try.params8]; simp [DataW.weightsEach, DataW.weights, Try.underlying25, hn])
  obtain ⟨u0_1, a0_1, ev0_1, f0_1_0, f0_1_1, f0_1_2⟩ := open_puts g0_1 (fun x hx => hlt x (by simp [hx])) hw0_1
  obtain rfl : c0_1 = _ := by simpa using ev0_1
  obtain ⟨a0_2, ev0_2, ey0_2⟩ := DataW.trod_bool Try.underlying4 g0_2
  obtain rfl : c0_2 = _ := by simpa using ev0_2
  subst ey0_2
  obtain ⟨a1, rfl, rfl, rfl, w1⟩ := open_int Try.underlying3 (hval 1 3 v1 rfl rfl) h1
  obtain ⟨a2, rfl, rfl, rfl, w2⟩ := open_int Try.underlying3 (hval 2 3 v2 rfl rfl) h2
  refine (walk W c0_0 a0_0 w0_0 z0_0 c0_1 a0_1 f0_1_0 f0_1_1 f0_1_2 a0_2 a1 w1 a2 w2).mono fun e W' ⟨he, hg⟩ => ?_
  subst he
  exact ⟨_, rfl, Copyhold.law_post laidOut (by kernel_rfl) (by kernel_rfl) Try.underlying4 rfl rfl rfl rfl hW' hg⟩

theorem over : Rows.diskStretchesRow.holds Try.pinned (OpenSpec.ofChange Rows.diskStretchesSpec) :=
  OpenClaim.holds_of_wide 8 Try.f8 rfl rfl rfl rfl rfl rfl rfl ⟨rfl, rfl, rfl, rfl, rfl⟩ rfl rfl rfl rfl rfl (by kernel_rfl) Try.func8 (by kernel_rfl)
    (of_decide_eq_true (by kernel_rfl)) (by unfold Func.isWrapper; first | (rw [if_pos (by decide +kernel)]; kernel_rfl) | (rw [if_neg (by decide +kernel)]; exact ⟨rfl, rfl⟩))
    (fun os started H enc _ => lifted os started H enc)

theorem proved : Rows.DiskStretchesSaid :=
  over
end Go.Proofs.Ytahnkkmngbckdaa.diskStretches
