/- Proved: copyholdlaw02.SealOne returns true for every text, place and byte, and leaves them as they were: of two texts that differ in one byte alone the sums are unlike; so a spoilt byte is seen, wherever it is. No condition beyond the form's own reach. -/
import Derived.Test.YtjmcfgcdojpjcaaSealMore
import Derived.Test.YtjmcfgcdojpjcaaLaw
namespace Go.Proofs.Ytjmcfgcdojpjcaa.sealOne
open Go.ChangeShapes Go.WideShapes Go.ChangeAt Go.RowKit Copyhold
open Go.ChangeMaps (open_string shut_string)
set_option linter.unusedVariables false

set_option maxHeartbeats 2000000 in
theorem walk (w : World) (l : List UInt8) (z0 : l.length ≤ 140737488351232) (at' : Int) (w1 : (Lit.int .i64 at').wf = true) (by' : Int) (w2 : (Lit.int .u8 by').wf = true) :
    Calls Try.prog 5 #[.string ⟨l.toArray⟩, .int .i64 at', .int .u8 by'] w fun e w' => e = .returned (.bool true) ∧ Below w.heap.size w w' := by
  have b1 : -9223372036854775808 ≤ at' ∧ at' ≤ 9223372036854775807 := by simpa [Lit.wf, IntKind.min, IntKind.max, IntKind.signed, IntKind.bits] using w1
  obtain ⟨b10, b11⟩ := b1
  have b2 : 0 ≤ by' ∧ by' ≤ 255 := by simpa [Lit.wf, IntKind.min, IntKind.max, IntKind.signed, IntKind.bits] using w2
  obtain ⟨b20, b21⟩ := b2
  clear w1 w2
  rcases (show 3000 < l.length ∨ l.length ≤ 3000 ∧ at' < 0 ∨ l.length ≤ 3000 ∧ 0 ≤ at' ∧ by' = 0 ∨ l.length ≤ 3000 ∧ 0 ≤ at' ∧ 0 < by' ∧ (l.length : Int) + 4 ≤ at' ∨ l.length ≤ 3000 ∧ 0 ≤ at' ∧ 0 < by' ∧ at' < (l.length : Int) + 4 from by omega) with h | ⟨h, h'⟩ | ⟨h, h', rfl⟩ | ⟨h, h', h'', h3⟩ | ⟨h, h', h'', h3⟩
  · go_enter Try.func5, Try.ntmps5
    go_wp2_with fail
    refine (law_shown _).mono ?_
    rintro e w1 ⟨rfl, hb1⟩
    go_wp2_with fail
    go_ret
    exact ⟨rfl, hb1⟩
  · go_enter Try.func5, Try.ntmps5
    go_wp2_with fail
    refine (law_shown _).mono ?_
    rintro e w1 ⟨rfl, hb1⟩
    go_wp2_with fail
    go_ret
    exact ⟨rfl, hb1⟩
  · go_enter Try.func5, Try.ntmps5
    go_wp2_with fail
    refine (law_shown _).mono ?_
    rintro e w1 ⟨rfl, hb1⟩
    go_wp2_with fail
    go_ret
    exact ⟨rfl, hb1⟩
  · have hp := putB_len l
    have hp1 : ((putB l).length : Int) = (l.length : Int) + 4 := by omega
    have hne0 : (by' == 0) = false := by rw [beq_eq_false_iff_ne]; omega
    clear hp
    go_enter Try.func5, Try.ntmps5
    go_wp2_with fail
    refine (law_shown _).mono ?_
    rintro e w1 ⟨rfl, hb1⟩
    go_wp2_with fail
    refine (seal_Put _ _ (by omega)).mono ?_
    rintro e w2 ⟨rfl, hb2⟩
    have hb2 := hb1.trans (hb2.mono hb1.size)
    go_wp2_with fail
    go_ret
    exact ⟨rfl, hb2⟩
  · obtain ⟨k, rfl⟩ := Int.eq_ofNat_of_zero_le h'
    obtain ⟨y, rfl⟩ := Int.eq_ofNat_of_zero_le b20
    have hp := putB_len l
    have hp1 : ((putB l).length : Int) = (l.length : Int) + 4 := by omega
    have hkl : k < (putB l).length := by omega
    have hki : (k : Int) < ((putB l).length : Int) := by omega
    have hpl : (putB l).length ≤ 3004 := by omega
    have hxb := xor_byte (putB l)[k] y (by omega)
    have hne : UInt8.ofNat ((putB l)[k].toNat ^^^ y) ≠ (putB l)[k] := fun he => by have := hxb.2.1 he; omega
    have hbad := takeS_spoilt l k _ hkl hne
    have hr : rightS ((putB l).set k (UInt8.ofNat ((putB l)[k].toNat ^^^ y))) = false := by unfold rightS; rw [hbad]; rfl
    have hr2 : rightS (putB l) = true := by unfold rightS; rw [takeS_putB]; rfl
    have hx : bits BinOp.xor IntKind.u8 ((putB l)[k].toNat : Int) (y : Int) = ((UInt8.ofNat ((putB l)[k].toNat ^^^ y)).toNat : Int) := by
      rw [hxb.1]; exact u8_xor_nat _ _ (putB l)[k].toNat_lt (by omega)
    have HR := Lib.hid hr
    have HR2 := Lib.hid hr2
    have hne0 : ((y : Int) == 0) = false := by rw [beq_eq_false_iff_ne]; omega
    clear hp hxb hne hbad hr hr2
    go_enter Try.func5, Try.ntmps5
    go_wp2_with fail
    refine (law_shown _).mono ?_
    rintro e w1 ⟨rfl, hb1⟩
    go_wp2_with fail
    refine (seal_Put _ _ (by omega)).mono ?_
    rintro e w2 ⟨rfl, hb2⟩
    have hb2 := hb1.trans (hb2.mono hb1.size)
    have hs2 := hb2.size
    have hcv := Lib.run_convert_string_bytes (P := Try.prog) w2 9 35 5 ⟨(putB l).toArray⟩ Try.underlying9 Try.underlying35 Try.underlying5
    have hsz : (⟨(putB l).toArray⟩ : ByteArray).size = (putB l).length := by simp [ByteArray.size]
    rw [hsz] at hcv
    have hcell := bytes_cell w2 5 (putB l)
    have hfree := bytes_free w2 5 (putB l)
    have hbelow := hb2.trans ((bytes_below w2 5 ⟨(putB l).toArray⟩).mono hs2)
    clear hsz hb1
    generalize Lib.bytesWorld w2 5 ⟨(putB l).toArray⟩ = W at *
    generalize grownCap w2 (putB l).length 0 5 = cap at *
    have hck := hcell k hkl
    have hfk := hfree k hkl
    generalize hb' : UInt8.ofNat ((putB l)[k].toNat ^^^ y) = b' at *
    have hback := run_convert_bytes_back (P := Try.prog) (W.setCell ⟨w2.heap.size, k, none⟩ (.int .u8 (b'.toNat : Int))) 35 9 5 ⟨w2.heap.size, 0, none⟩ cap ((putB l).set k b') Try.underlying35 Try.underlying5 Try.underlying9 (by
      intro j hj
      rw [List.length_set] at hj
      have hadd : (⟨w2.heap.size, 0, none⟩ : Addr).add j = ⟨w2.heap.size, j, none⟩ := by unfold Addr.add; split <;> simp_all
      rw [hadd]
      by_cases hkj : k = j
      · subst hkj
        rw [World.cell?_setCell_same _ _ _ hck]
        simp
      · rw [World.cell?_setCell_other _ _ _ _ (by intro h; simp at h)]
        rw [hcell j hj]
        simp [List.getElem_set_ne hkj])
    rw [List.length_set] at hback
    have hlen' : ((putB l).set k b').length ≤ 3004 := by rw [List.length_set]; exact hpl
    have HFR := Lib.hid hb2
    clear hb' hcell hfree hb2
    go_wp2_with fail
    refine (seal_Right _ _ (by omega)).mono ?_
    rintro e w3 ⟨rfl, hb3⟩
    have hbs : Below w.heap.size w (W.setCell ⟨w2.heap.size, k, none⟩ (.int .u8 (b'.toNat : Int))) := hbelow.setCell hs2 _
    have hb3 := hbs.trans (hb3.mono hbs.size)
    rw [HR.out]
    clear hback hck hfk hx hcv
    go_wp2_with fail
    refine (seal_Right _ _ (by omega)).mono ?_
    rintro e w4 ⟨rfl, hb4⟩
    have hb4 := hb3.trans (hb4.mono hb3.size)
    rw [HR2.out]
    go_wp2_with fail
    go_ret
    exact ⟨rfl, hb4⟩

theorem own : ownKnob Try.prog.godebug = none := by kernel_rfl
theorem laidOut : laidOutB Try.prog = true := by kernel_rfl

set_option maxRecDepth 100000 in
theorem lifted (os : Os) (started : os.Started) (H : Type) (enc : TypeId × Value → H) :
    ReturnsInHanded {} Try.checked os 5 .any (Rows.sealOneSpec.pre6 enc Try.prog Try.f5 Rows.sealOneRow.domain false) (Rows.sealOneSpec.post enc Try.prog Try.f5 false true false false) := by
  refine returnsInHanded_of_change_sized (C := Try.checked) own started (by kernel_rfl) Try.func5
    (ChangeSpec.witness6 (enc := enc) (C := Try.checked) false ⟨#[], #[.string ByteArray.empty, .int .i64 0, .int .u8 0], []⟩ 8 (by kernel_rfl) (by kernel_rfl) (by kernel_rfl) (by kernel_rfl)) ?_
  intro W base args ds gs before hval0 hW hcnd hsz _
  have hval : ∀ (j : Nat) t v, Try.f5.params[j]? = some t → args[j]? = some v → Value.okWide Try.prog W .any base t v := hval0
  have hW' := hW
  have hlt := hW.lt
  obtain ⟨p, q, hA0, hV, rfl, hfz, hnd⟩ := hW
  have hA : DataW.TrodAll enc Try.prog W 0 (fun _ => true) true Try.f5.params.toList args.toList ds p := hA0
  rw [Try.params5] at hA hval
  obtain ⟨v0, vs0, d0, ds0, p0, q0, hargs, rfl, rfl, h0, r0⟩ := trodAll_cons hA
  obtain ⟨v1, vs1, d1, ds1, p1, q1, rfl, rfl, rfl, h1, r1⟩ := trodAll_cons r0
  obtain ⟨v2, vs2, d2, ds2, p2, q2, rfl, rfl, rfl, h2, r2⟩ := trodAll_cons r1
  obtain ⟨rfl, rfl, rfl⟩ := trodAll_nil r2
  obtain rfl : args = #[v0, v1, v2] := by cases args; simp_all
  obtain ⟨rfl, rfl⟩ := trodVars_none hV
  obtain ⟨s0, rfl, rfl, rfl, w0⟩ := open_string Try.underlying9 (hval 0 9 v0 rfl rfl) h0
  have z0 : s0.data.toList.length ≤ 140737488351232 := sized_string hsz (j := 0) (t := 9) (by rw [Try.params5]; rfl) rfl
  obtain ⟨a0, rfl⟩ : ∃ l : List UInt8, s0 = ⟨l.toArray⟩ := ⟨s0.data.toList, rfl⟩
  obtain ⟨a1, rfl, rfl, rfl, w1⟩ := open_int Try.underlying3 (hval 1 3 v1 rfl rfl) h1
  obtain ⟨a2, rfl, rfl, rfl, w2⟩ := open_int Try.underlying5 (hval 2 5 v2 rfl rfl) h2
  refine (walk W a0 z0 a1 w1 a2 w2).mono fun e W' ⟨he, hg⟩ => ?_
  subst he
  exact ⟨_, rfl, Copyhold.law_post laidOut (by kernel_rfl) (by kernel_rfl) Try.underlying4 rfl rfl rfl rfl hW' hg⟩

theorem over : Rows.sealOneRow.holds Try.pinned (OpenSpec.ofChange Rows.sealOneSpec) :=
  OpenClaim.holds_of_wide 5 Try.f5 rfl rfl rfl rfl rfl rfl rfl ⟨rfl, rfl, rfl, rfl, rfl⟩ rfl rfl rfl rfl rfl (by kernel_rfl) Try.func5 (by kernel_rfl)
    (of_decide_eq_true (by kernel_rfl)) (by unfold Func.isWrapper; first | (rw [if_pos (by decide +kernel)]; kernel_rfl) | (rw [if_neg (by decide +kernel)]; exact ⟨rfl, rfl⟩))
    (fun os started H enc _ => lifted os started H enc)

theorem proved : Rows.SealOneSaid :=
  over
end Go.Proofs.Ytjmcfgcdojpjcaa.sealOne
