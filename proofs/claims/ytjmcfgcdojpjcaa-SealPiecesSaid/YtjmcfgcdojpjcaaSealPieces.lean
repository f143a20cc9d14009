/- Proved: copyholdlaw02.SealPieces returns true for every two texts and every register, and leaves them as they were: a sum goes on behind a piece as in one; what was put is taken. No condition beyond the form's own reach. -/
import Derived.Test.YtjmcfgcdojpjcaaSealMore
import Derived.Test.YtjmcfgcdojpjcaaLaw
namespace Go.Proofs.Ytjmcfgcdojpjcaa.sealPieces
open Go.ChangeShapes Go.WideShapes Go.ChangeAt Go.RowKit Copyhold
open Go.ChangeMaps (open_string shut_string)
set_option linter.unusedVariables false

set_option maxHeartbeats 2000000 in
theorem walk (w : World) (a : List UInt8) (z0 : a.length ≤ 140737488351232) (b : List UInt8) (z1 : b.length ≤ 140737488351232) (c : Int) (w2 : (Lit.int .u32 c).wf = true) :
    Calls Try.prog 4 #[.string ⟨a.toArray⟩, .string ⟨b.toArray⟩, .int .u32 c] w fun e w' => e = .returned (.bool true) ∧ Below w.heap.size w w' := by
  have b2 : 0 ≤ c ∧ c ≤ 4294967295 := by simpa [Lit.wf, IntKind.min, IntKind.max, IntKind.signed, IntKind.bits] using w2
  obtain ⟨b20, b21⟩ := b2
  clear w2
  obtain ⟨n, rfl⟩ := Int.eq_ofNat_of_zero_le b20
  have hn : n < 4294967296 := by omega
  clear b20 b21
  by_cases hlen : 5000 < a.length + b.length
  · go_enter Try.func4, Try.ntmps4
    go_wp2_with fail
    refine (law_shown _).mono ?_
    rintro e w1 ⟨rfl, hb1⟩
    go_wp2_with fail
    go_ret
    exact ⟨rfl, hb1⟩
  · have p1 := putB_len a
    have T1 := Lib.hid (takeS_putB a)
    have hap := crcMore_append n a b
    have hap2 := crcMore_append 4294967295 a b
    have h1 := crcMore_lt a n hn
    have h2 := crcMore_lt a 4294967295 (by decide)
    have h3 := crcMore_lt b _ h2
    have hnot : bits BinOp.xor IntKind.u32 IntKind.u32.max (crcMore (crcMore 4294967295 a) b : Int) = (crcSum (a ++ b) : Int) := by
      rw [show IntKind.u32.max = ((4294967295 : Nat) : Int) from rfl, u32_xor_nat _ _ (by decide) h3, Nat.xor_comm, ← hap2]; rfl
    have hpl : (putB a).length ≤ 5004 := by omega
    have HA := Lib.hid hap
    have HN := Lib.hid hnot
    clear hap hap2 hnot p1 h3
    go_enter Try.func4, Try.ntmps4
    go_wp2_with fail
    refine (law_shown _).mono ?_
    rintro e w1 ⟨rfl, hb1⟩
    go_wp2_with fail
    refine (seal_Put _ _ (by omega)).mono ?_
    rintro e w2 ⟨rfl, hb2⟩
    have hb2 := hb1.trans (hb2.mono hb1.size)
    go_wp2_with fail
    refine (seal_Take _ _ (by omega)).mono ?_
    rintro e w3 ⟨rfl, hb3⟩
    have hb3 := hb2.trans (hb3.mono hb2.size)
    rw [T1.out]
    go_wp2_with fail
    refine (seal_More _ _ _ hn (by omega)).mono ?_
    rintro e w4 ⟨rfl, hb4⟩
    have hb4 := hb3.trans (hb4.mono hb3.size)
    go_wp2_with fail
    refine (seal_More _ _ _ h1 (by omega)).mono ?_
    rintro e w5 ⟨rfl, hb5⟩
    have hb5 := hb4.trans (hb5.mono hb4.size)
    go_wp2_with fail
    refine (seal_More _ _ _ hn (by rw [List.length_append]; omega)).mono ?_
    rintro e w6 ⟨rfl, hb6⟩
    have hb6 := hb5.trans (hb6.mono hb5.size)
    rw [HA.out]
    go_wp2_with fail
    refine (seal_More 4294967295 _ _ (by decide) (by omega)).mono ?_
    rintro e w7 ⟨rfl, hb7⟩
    have hb7 := hb6.trans (hb7.mono hb6.size)
    go_wp2_with fail
    refine (seal_More _ _ _ h2 (by omega)).mono ?_
    rintro e w8 ⟨rfl, hb8⟩
    have hb8 := hb7.trans (hb8.mono hb7.size)
    have hnot := HN.out
    go_wp2_with fail
    refine (seal_Sum _ _ (by rw [List.length_append]; omega)).mono ?_
    rintro e w9 ⟨rfl, hb9⟩
    have hb9 := hb8.trans (hb9.mono hb8.size)
    go_wp2_with fail
    go_ret
    exact ⟨rfl, hb9⟩

theorem own : ownKnob Try.prog.godebug = none := by kernel_rfl
theorem laidOut : laidOutB Try.prog = true := by kernel_rfl

set_option maxRecDepth 100000 in
theorem lifted (os : Os) (started : os.Started) (H : Type) (enc : TypeId × Value → H) :
    ReturnsInHanded {} Try.checked os 4 .any (Rows.sealPiecesSpec.pre6 enc Try.prog Try.f4 Rows.sealPiecesRow.domain false) (Rows.sealPiecesSpec.post enc Try.prog Try.f4 false true false false) := by
  refine returnsInHanded_of_change_sized (C := Try.checked) own started (by kernel_rfl) Try.func4
    (ChangeSpec.witness6 (enc := enc) (C := Try.checked) false ⟨#[], #[.string ByteArray.empty, .string ByteArray.empty, .int .u32 0], []⟩ 8 (by kernel_rfl) (by kernel_rfl) (by kernel_rfl) (by kernel_rfl)) ?_
  intro W base args ds gs before hval0 hW hcnd hsz _
  have hval : ∀ (j : Nat) t v, Try.f4.params[j]? = some t → args[j]? = some v → Value.okWide Try.prog W .any base t v := hval0
  have hW' := hW
  have hlt := hW.lt
  obtain ⟨p, q, hA0, hV, rfl, hfz, hnd⟩ := hW
  have hA : DataW.TrodAll enc Try.prog W 0 (fun _ => true) true Try.f4.params.toList args.toList ds p := hA0
  rw [Try.params4] at hA hval
  obtain ⟨v0, vs0, d0, ds0, p0, q0, hargs, rfl, rfl, h0, r0⟩ := trodAll_cons hA
  obtain ⟨v1, vs1, d1, ds1, p1, q1, rfl, rfl, rfl, h1, r1⟩ := trodAll_cons r0
  obtain ⟨v2, vs2, d2, ds2, p2, q2, rfl, rfl, rfl, h2, r2⟩ := trodAll_cons r1
  obtain ⟨rfl, rfl, rfl⟩ := trodAll_nil r2
  obtain rfl : args = #[v0, v1, v2] := by cases args; simp_all
  obtain ⟨rfl, rfl⟩ := trodVars_none hV
  obtain ⟨s0, rfl, rfl, rfl, w0⟩ := open_string Try.underlying9 (hval 0 9 v0 rfl rfl) h0
  have z0 : s0.data.toList.length ≤ 140737488351232 := sized_string hsz (j := 0) (t := 9) (by rw [Try.params4]; rfl) rfl
  obtain ⟨a0, rfl⟩ : ∃ l : List UInt8, s0 = ⟨l.toArray⟩ := ⟨s0.data.toList, rfl⟩
  obtain ⟨s1, rfl, rfl, rfl, w1⟩ := open_string Try.underlying9 (hval 1 9 v1 rfl rfl) h1
  have z1 : s1.data.toList.length ≤ 140737488351232 := sized_string hsz (j := 1) (t := 9) (by rw [Try.params4]; rfl) rfl
  obtain ⟨a1, rfl⟩ : ∃ l : List UInt8, s1 = ⟨l.toArray⟩ := ⟨s1.data.toList, rfl⟩
  obtain ⟨a2, rfl, rfl, rfl, w2⟩ := open_int Try.underlying22 (hval 2 22 v2 rfl rfl) h2
  refine (walk W a0 z0 a1 z1 a2 w2).mono fun e W' ⟨he, hg⟩ => ?_
  subst he
  exact ⟨_, rfl, Copyhold.law_post laidOut (by kernel_rfl) (by kernel_rfl) Try.underlying4 rfl rfl rfl rfl hW' hg⟩

theorem over : Rows.sealPiecesRow.holds Try.pinned (OpenSpec.ofChange Rows.sealPiecesSpec) :=
  OpenClaim.holds_of_wide 4 Try.f4 rfl rfl rfl rfl rfl rfl rfl ⟨rfl, rfl, rfl, rfl, rfl⟩ rfl rfl rfl rfl rfl (by kernel_rfl) Try.func4 (by kernel_rfl)
    (of_decide_eq_true (by kernel_rfl)) (by unfold Func.isWrapper; first | (rw [if_pos (by decide +kernel)]; kernel_rfl) | (rw [if_neg (by decide +kernel)]; exact ⟨rfl, rfl⟩))
    (fun os started H enc _ => lifted os started H enc)

theorem proved : Rows.SealPiecesSaid :=
  over
end Go.Proofs.Ytjmcfgcdojpjcaa.sealPieces
