/- Proved: copyholdlaw02.SealTwo returns true for every text, place, byte and two registers, and leaves them as they were: of two texts of one length that differ in one byte the sums are unlike, of the same they are the same; a register that is turned differs. No condition beyond the form's own reach. -/
import Derived.Test.YtjmcfgcdojpjcaaSealMore
import Derived.Test.YtjmcfgcdojpjcaaLaw
namespace Go.Proofs.Ytjmcfgcdojpjcaa.sealTwo
open Go.ChangeShapes Go.WideShapes Go.ChangeAt Go.RowKit Copyhold
open Go.ChangeMaps (open_string shut_string)
set_option linter.unusedVariables false

set_option maxHeartbeats 4000000 in
theorem walk (w : World) (l : List UInt8) (z0 : l.length ≤ 140737488351232) (at' : Int) (w1 : (Lit.int .i64 at').wf = true) (by' : Int) (w2 : (Lit.int .u8 by').wf = true) (c : Int) (w3 : (Lit.int .u32 c).wf = true) (d : Int) (w4 : (Lit.int .u32 d).wf = true) :
    Calls Try.prog 7 #[.agg #[.string ⟨l.toArray⟩, .int .i64 at', .int .u8 by', .int .u32 c, .int .u32 d]] w fun e w' => e = .returned (.bool true) ∧ Below w.heap.size w w' := by
  have b1 : -9223372036854775808 ≤ at' ∧ at' ≤ 9223372036854775807 := by simpa [Lit.wf, IntKind.min, IntKind.max, IntKind.signed, IntKind.bits] using w1
  obtain ⟨b10, b11⟩ := b1
  have b2 : 0 ≤ by' ∧ by' ≤ 255 := by simpa [Lit.wf, IntKind.min, IntKind.max, IntKind.signed, IntKind.bits] using w2
  obtain ⟨b20, b21⟩ := b2
  have b3 : 0 ≤ c ∧ c ≤ 4294967295 := by simpa [Lit.wf, IntKind.min, IntKind.max, IntKind.signed, IntKind.bits] using w3
  obtain ⟨b30, b31⟩ := b3
  have b4 : 0 ≤ d ∧ d ≤ 4294967295 := by simpa [Lit.wf, IntKind.min, IntKind.max, IntKind.signed, IntKind.bits] using w4
  obtain ⟨b40, b41⟩ := b4
  clear w1 w2 w3 w4
  obtain ⟨y, rfl⟩ := Int.eq_ofNat_of_zero_le b20
  obtain ⟨c, rfl⟩ := Int.eq_ofNat_of_zero_le b30
  obtain ⟨d, rfl⟩ := Int.eq_ofNat_of_zero_le b40
  have hc : c < 4294967296 := by omega
  have hd : d < 4294967296 := by omega
  have hy : y < 256 := by omega
  clear b20 b21 b30 b31 b40 b41
  obtain ⟨W0, hW0⟩ : ∃ W0, W0 = w.alloc (.cells #[.string ⟨l.toArray⟩, .int .i64 at', .int .u8 y, .int .u32 c, .int .u32 d] 38) := ⟨_, rfl⟩
  have hbW : Below w.heap.size w W0 := by rw [hW0]; exact (Below.refl _ _).alloc (Nat.le_refl _) _
  have HW := Lib.hid hW0
  clear hW0
  rcases (show 3000 < l.length ∨ l.length ≤ 3000 ∧ at' < 0 ∨ l.length ≤ 3000 ∧ 0 ≤ at' ∧ (l.length : Int) ≤ at' ∨ l.length ≤ 3000 ∧ 0 ≤ at' ∧ at' < (l.length : Int) from by omega) with h | ⟨h, h'⟩ | ⟨h, h', h''⟩ | ⟨h, h', h''⟩
  · go_enter Try.func7, Try.ntmps7
    go_wp2_with fail
    rw [← HW.out]
    refine (law_shown _).mono ?_
    rintro e w1 ⟨rfl, hb1⟩
    have hb1 := hbW.trans (hb1.mono hbW.size)
    go_wp2_with fail
    go_ret
    exact ⟨rfl, hb1⟩
  · go_enter Try.func7, Try.ntmps7
    go_wp2_with fail
    rw [← HW.out]
    refine (law_shown _).mono ?_
    rintro e w1 ⟨rfl, hb1⟩
    have hb1 := hbW.trans (hb1.mono hbW.size)
    go_wp2_with fail
    go_ret
    exact ⟨rfl, hb1⟩
  · go_enter Try.func7, Try.ntmps7
    go_wp2_with fail
    rw [← HW.out]
    refine (law_shown _).mono ?_
    rintro e w1 ⟨rfl, hb1⟩
    have hb1 := hbW.trans (hb1.mono hbW.size)
    go_wp2_with fail
    go_ret
    exact ⟨rfl, hb1⟩
  · obtain ⟨k, rfl⟩ := Int.eq_ofNat_of_zero_le h'
    have hkl : k < l.length := by omega
    have hxb := xor_byte l[k] y hy
    have hx : bits BinOp.xor IntKind.u8 (l[k].toNat : Int) (y : Int) = ((UInt8.ofNat (l[k].toNat ^^^ y)).toNat : Int) := by
      rw [hxb.1]; exact u8_xor_nat _ _ l[k].toNat_lt hy
    have hsum : (((crcSum l : Int) == (crcSum (l.set k (UInt8.ofNat (l[k].toNat ^^^ y))) : Int)) == ((y : Int) == 0)) = true := by
      by_cases h0 : y = 0
      · have hb := hxb.2.2 h0
        rw [hb, List.set_getElem_self, h0]; simp
      · have hb : UInt8.ofNat (l[k].toNat ^^^ y) ≠ l[k] := fun he => h0 (hxb.2.1 he)
        have hne := crcSum_set l k _ hkl hb
        have e1 : ((crcSum l : Int) == (crcSum (l.set k (UInt8.ofNat (l[k].toNat ^^^ y))) : Int)) = false := by
          rw [beq_eq_false_iff_ne]; intro h; exact hne (by omega)
        have e2 : ((y : Int) == 0) = false := by rw [beq_eq_false_iff_ne]; omega
        rw [e1, e2]; rfl
    have hmore : (((crcMore c l : Int) == (crcMore d l : Int)) == ((c : Int) == (d : Int))) = true := by
      by_cases h0 : c = d
      · subst h0; simp
      · have hne : crcMore c l ≠ crcMore d l := fun he => h0 (crcMore_inj l hc hd he)
        have e1 : ((crcMore c l : Int) == (crcMore d l : Int)) = false := by rw [beq_eq_false_iff_ne]; omega
        have e2 : ((c : Int) == (d : Int)) = false := by rw [beq_eq_false_iff_ne]; omega
        rw [e1, e2]; rfl
    have HS := Lib.hid hsum
    have HM := Lib.hid hmore
    clear hxb hsum hmore
    go_enter Try.func7, Try.ntmps7
    go_wp2_with fail
    rw [← HW.out]
    refine (law_shown _).mono ?_
    rintro e w2 ⟨rfl, hb2⟩
    have hb2 := hbW.trans (hb2.mono hbW.size)
    have hs2 := hb2.size
    have hcv := Lib.run_convert_string_bytes (P := Try.prog) w2 9 35 5 ⟨l.toArray⟩ Try.underlying9 Try.underlying35 Try.underlying5
    have hsz : (⟨l.toArray⟩ : ByteArray).size = l.length := by simp [ByteArray.size]
    rw [hsz] at hcv
    have hcell := bytes_cell w2 5 l
    have hfree := bytes_free w2 5 l
    have hbelow := hb2.trans ((bytes_below w2 5 ⟨l.toArray⟩).mono hs2)
    clear hsz hbW
    generalize Lib.bytesWorld w2 5 ⟨l.toArray⟩ = W at *
    generalize grownCap w2 l.length 0 5 = cap at *
    have hck := hcell k hkl
    have hfk := hfree k hkl
    generalize hb' : UInt8.ofNat (l[k].toNat ^^^ y) = b' at *
    have hback := run_convert_bytes_back (P := Try.prog) (W.setCell ⟨w2.heap.size, k, none⟩ (.int .u8 (b'.toNat : Int))) 35 9 5 ⟨w2.heap.size, 0, none⟩ cap (l.set k b') Try.underlying35 Try.underlying5 Try.underlying9 (by
      intro j hj
      rw [List.length_set] at hj
      have hadd : (⟨w2.heap.size, 0, none⟩ : Addr).add j = ⟨w2.heap.size, j, none⟩ := by unfold Addr.add; split <;> simp_all
      rw [hadd]
      by_cases hkj : k = j
      · subst hkj
        rw [World.cell?_setCell_same _ _ _ hck]
        simp
      · rw [World.cell?_setCell_other _ _ _ _ (by intro h; simp at h)]
        rw [hcell j hj]
        simp [List.getElem_set_ne hkj])
    rw [List.length_set] at hback
    have hlen' : (l.set k b').length ≤ 3000 := by rw [List.length_set]; exact h
    clear hb' hcell hfree
    go_wp2_with fail
    have hbs : Below w.heap.size w (W.setCell ⟨w2.heap.size, k, none⟩ (.int .u8 (b'.toNat : Int))) := hbelow.setCell hs2 _
    clear hback hck hfk hx hcv
    generalize W.setCell ⟨w2.heap.size, k, none⟩ (.int .u8 (b'.toNat : Int)) = W3 at *
    refine (seal_Sum _ _ (by omega)).mono ?_
    rintro e w4 ⟨rfl, hb4⟩
    have hb4 := hbs.trans (hb4.mono hbs.size)
    go_wp2_with fail
    refine (seal_Sum _ _ (by omega)).mono ?_
    rintro e w5 ⟨rfl, hb5⟩
    have hb5 := hb4.trans (hb5.mono hb4.size)
    have hsum := HS.out
    go_wp2_with fail
    refine (seal_More _ _ _ hc (by omega)).mono ?_
    rintro e w6 ⟨rfl, hb6⟩
    have hb6 := hb5.trans (hb6.mono hb5.size)
    go_wp2_with fail
    refine (seal_More _ _ _ hd (by omega)).mono ?_
    rintro e w7 ⟨rfl, hb7⟩
    have hb7 := hb6.trans (hb7.mono hb6.size)
    have hmore := HM.out
    go_wp2_with fail
    go_ret
    exact ⟨by first | rfl | exact ret_bool hmore, hb7⟩

theorem own : ownKnob Try.prog.godebug = none := by kernel_rfl
theorem laidOut : laidOutB Try.prog = true := by kernel_rfl
theorem cellscopyhold_copyholdlaw02_SealTwoIn : Try.prog.cellsOf 38 = 5 := by kernel_rfl
theorem cellsstring : Try.prog.cellsOf 9 = 1 := by kernel_rfl
theorem cellsint : Try.prog.cellsOf 3 = 1 := by kernel_rfl
theorem cellsuint8 : Try.prog.cellsOf 5 = 1 := by kernel_rfl
theorem cellsuint32 : Try.prog.cellsOf 22 = 1 := by kernel_rfl

set_option maxRecDepth 100000 in
set_option maxHeartbeats 1000000 in
theorem lifted (os : Os) (started : os.Started) (H : Type) (enc : TypeId × Value → H) :
    ReturnsInHanded {} Try.checked os 7 .any (Rows.sealTwoSpec.pre6 enc Try.prog Try.f7 Rows.sealTwoRow.domain false) (Rows.sealTwoSpec.post enc Try.prog Try.f7 false true false false) := by
  refine returnsInHanded_of_change_sized (C := Try.checked) own started (by kernel_rfl) Try.func7
    (ChangeSpec.witness6 (enc := enc) (C := Try.checked) false ⟨#[], #[.agg #[.string ByteArray.empty, .int .i64 0, .int .u8 0, .int .u32 0, .int .u32 0]], []⟩ 8 (by kernel_rfl) (by kernel_rfl) (by kernel_rfl) (by kernel_rfl)) ?_
  intro W base args ds gs before hval0 hW hcnd hsz0 _
  have hsz : (DataW.weightsEach Try.prog (Try.f7.params.toList ++ []) (ds ++ gs)).all (· ≤ reachBytes) = true := hsz0
  clear hsz0
  have hval : ∀ (j : Nat) t v, Try.f7.params[j]? = some t → args[j]? = some v → Value.okWide Try.prog W .any base t v := hval0
  have hW' := hW
  have hlt := hW.lt
  obtain ⟨p, q, hA0, hV, rfl, hfz, hnd⟩ := hW
  have hA : DataW.TrodAll enc Try.prog W 0 (fun _ => true) true Try.f7.params.toList args.toList ds p := hA0
  rw [Try.params7] at hA hval
  obtain ⟨v0, vs0, d0, ds0, p0, q0, hargs, rfl, rfl, h0, r0⟩ := trodAll_cons hA
  obtain ⟨rfl, rfl, rfl⟩ := trodAll_nil r0
  obtain rfl : args = #[v0] := by cases args; simp_all
  obtain ⟨rfl, rfl⟩ := trodVars_none hV
  obtain ⟨cs0, rfl, hcz0⟩ := okWide_struct Try.underlying38 (hval 0 38 v0 rfl rfl)
  rw [cellscopyhold_copyholdlaw02_SealTwoIn] at hcz0
  obtain ⟨c0_0, c0_1, c0_2, c0_3, c0_4, rfl⟩ := array5_of hcz0
  obtain ⟨fuel0, hf0⟩ := h0
  obtain ⟨xs0, m0, _, hx0, _, hlen0, hfl0⟩ := DataW.trod_struct Try.underlying38 hf0
  obtain ⟨y0_0, y0_1, y0_2, y0_3, y0_4, rfl⟩ := list5 hlen0
  have g0_0 : DataW.trod enc Try.prog W 0 (fun _ => true) true m0 9 [c0_0] = some y0_0 := by have h := hfl0 0 _ rfl; simpa [Value.cells, cellsstring] using h
  have g0_1 : DataW.trod enc Try.prog W 0 (fun _ => true) true m0 3 [c0_1] = some y0_1 := by have h := hfl0 1 _ rfl; simpa [Value.cells, cellsint] using h
  have g0_2 : DataW.trod enc Try.prog W 0 (fun _ => true) true m0 5 [c0_2] = some y0_2 := by have h := hfl0 2 _ rfl; simpa [Value.cells, cellsuint8] using h
  have g0_3 : DataW.trod enc Try.prog W 0 (fun _ => true) true m0 22 [c0_3] = some y0_3 := by have h := hfl0 3 _ rfl; simpa [Value.cells, cellsuint32] using h
  have g0_4 : DataW.trod enc Try.prog W 0 (fun _ => true) true m0 22 [c0_4] = some y0_4 := by have h := hfl0 4 _ rfl; simpa [Value.cells, cellsuint32] using h
  simp only [Prod.mk.injEq] at hx0
  obtain ⟨rfl, hp0⟩ := hx0
  subst hp0
  obtain ⟨s0_0, ev0_0, ey0_0, w0_0⟩ := DataW.trod_string Try.underlying9 g0_0
  obtain rfl : c0_0 = _ := by simpa using ev0_0
  subst ey0_0
  have z0_0 : s0_0.data.toList.length ≤ 140737488351232 := sized_deep hsz (by rw [Try.params7]; simp [DataW.weightsEach, DataW.weights, Try.underlying38])
  obtain ⟨a0_0, rfl⟩ : ∃ l : List UInt8, s0_0 = ⟨l.toArray⟩ := ⟨s0_0.data.toList, rfl⟩
  obtain ⟨a0_1, ev0_1, ey0_1, w0_1⟩ := DataW.trod_int Try.underlying3 g0_1
  obtain rfl : c0_1 = _ := by simpa using ev0_1
  subst ey0_1
  obtain ⟨a0_2, ev0_2, ey0_2, w0_2⟩ := DataW.trod_int Try.underlying5 g0_2
  obtain rfl : c0_2 = _ := by simpa using ev0_2
  subst ey0_2
  obtain ⟨a0_3, ev0_3, ey0_3, w0_3⟩ := DataW.trod_int Try.underlying22 g0_3
  obtain rfl : c0_3 = _ := by simpa using ev0_3
  subst ey0_3
  obtain ⟨a0_4, ev0_4, ey0_4, w0_4⟩ := DataW.trod_int Try.underlying22 g0_4
  obtain rfl : c0_4 = _ := by simpa using ev0_4
  subst ey0_4
  refine (walk W a0_0 z0_0 a0_1 w0_1 a0_2 w0_2 a0_3 w0_3 a0_4 w0_4).mono fun e W' ⟨he, hg⟩ => ?_
  subst he
  exact ⟨_, rfl, Copyhold.law_post laidOut (by kernel_rfl) (by kernel_rfl) Try.underlying4 rfl rfl rfl rfl hW' hg⟩

theorem over : Rows.sealTwoRow.holds Try.pinned (OpenSpec.ofChange Rows.sealTwoSpec) :=
  OpenClaim.holds_of_wide 7 Try.f7 rfl rfl rfl rfl rfl rfl rfl ⟨rfl, rfl, rfl, rfl, rfl⟩ rfl rfl rfl rfl rfl (by kernel_rfl) Try.func7 (by kernel_rfl)
    (of_decide_eq_true (by kernel_rfl)) (by unfold Func.isWrapper; first | (rw [if_pos (by decide +kernel)]; kernel_rfl) | (rw [if_neg (by decide +kernel)]; exact ⟨rfl, rfl⟩))
    (fun os started H enc _ => lifted os started H enc)

theorem proved : Rows.SealTwoSaid :=
  over
end Go.Proofs.Ytjmcfgcdojpjcaa.sealTwo
