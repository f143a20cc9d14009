/- Proved: copyholdlaw01.OctetLays returns true for every numbers and every row of texts, and leaves its arguments as they were: numbers' and texts' bytes, and folded numbers, are as the document says. Where the arguments together are of bulk at most 1048576. -/
import Derived.Test.YtibgedkaollniaaOctShown
import Derived.Test.YtibgedkaollniaaOctList
import Derived.Test.YtibgedkaollniaaRef01Rows
import Derived.Test.YtibgedkaollniaaPure01b
import Derived.Test.YtibgedkaollniaaBulk
namespace Go.Proofs.Ytibgedkaollniaa.octetLays
open Go.ChangeShapes Go.WideShapes Go.ChangeAt Go.RowKit Copyhold
open Go.ChangeMaps (open_string shut_string)
set_option linter.unusedVariables false

set_option maxHeartbeats 2000000 in
theorem walk (w : World) (n : Int) (w0 : (Lit.int .u64 n).wf = true) (v : Value) (ls : List (List UInt8)) (hv : Row w v (ls.map strV)) (z : (ls.map List.length).sum + ls.length ≤ 1048576) (m : Int) (w2 : (Lit.int .i64 m).wf = true) :
    Calls Try.prog 3 #[.int .u64 n, v, .int .i64 m] w fun e w' => e = .returned (.bool true) ∧ Below w.heap.size w w' := by
  have b0 : 0 ≤ n ∧ n ≤ 18446744073709551615 := by simpa [Lit.wf, IntKind.min, IntKind.max, IntKind.signed, IntKind.bits] using w0
  obtain ⟨b00, b01⟩ := b0
  have b2 : -9223372036854775808 ≤ m ∧ m ≤ 9223372036854775807 := by simpa [Lit.wf, IntKind.min, IntKind.max, IntKind.signed, IntKind.bits] using w2
  obtain ⟨b20, b21⟩ := b2
  clear w0 w2
  obtain ⟨a, c, rfl⟩ := hv.shape
  rw [List.length_map] at hv ⊢
  have HV := Lib.hid hv
  have HZ := Lib.hid z
  have hlz : ls.length ≤ 1048576 := by omega
  have hlong : longN ls ≤ 1048576 := z
  clear hv z
  by_cases h5 : 5000 < longN ls
  · go_enter Try.func3, Try.ntmps3
    go_wp2_with fail
    refine (law_shown _).mono ?_
    rintro e w1 ⟨rfl, hb1⟩
    go_wp2_with fail
    refine (ref_Long _ ls _ (HV.out.below hb1) (by have := HZ.out; omega)).mono ?_
    rintro e w2 ⟨rfl, rfl⟩
    go_wp2_with fail
    go_ret
    exact ⟨rfl, hb1⟩
  · go_enter Try.func3, Try.ntmps3
    go_wp2_with fail
    refine (law_shown _).mono ?_
    rintro e w1 ⟨rfl, hb1⟩
    go_wp2_with fail
    refine (ref_Long _ ls _ (HV.out.below hb1) (by have := HZ.out; omega)).mono ?_
    rintro e w2 ⟨rfl, rfl⟩
    go_wp2_with fail
    go_loopw [8] (fun i wr => ∃ k : Nat, k ≤ ls.length ∧ i = .int .i64 k ∧ Below w.heap.size w wr) (fun i _ => ls.length - (intOf i).toNat)
    case atStart => exact ⟨0, Nat.zero_le _, rfl, hb1⟩
    case round =>
      obtain ⟨k, hk, rfl, hb⟩ := hrel
      have hsz := hb.size
      by_cases hlt : k < ls.length
      · obtain ⟨b, off, rfl, hbk, _, hcs⟩ := HV.out.at k (x := strV ls[k]) (by simp [hlt])
        have hcw : w.cell? ⟨b, off + k, none⟩ = some (.string ⟨(ls[k]).toArray⟩) := hcs k (strV ls[k]) (by simp [hlt])
        have hyl := len_le_sum (List.getElem_mem hlt)
        have hyl2 : ls[k].length ≤ 1048576 := by have := HZ.out; omega
        have hc : wr.cell? ⟨b, off + k, none⟩ = some (.string ⟨(ls[k]).toArray⟩) := (hb.cell (p := ⟨b, off + k, none⟩) hbk).trans hcw
        clear hcs hyl
        generalize ls[k] = y at *
        have hi1 : (k : Int) < (ls.length : Int) := by omega
        have hbk2 : b < wr.heap.size := by omega
        go_wp2_with fail
        go_region_with (first | (go_at_call 12; refine (octet_Text y _ (by omega)).mono ?_; rintro e w3 ⟨rfl, hb3⟩; have hc3 := (hb3.cell (p := ⟨b, off + k, none⟩) hbk2).trans hc) | (go_at_call 13; refine (ref_Text y _ (by omega)).mono ?_; rintro e w4 ⟨rfl, hb4⟩))
        all_goals
          go_wp2_with fail
          go_roundw
          case rel => exact ⟨k + 1, by omega, by go_num, (hb.drew.trans (hb3.mono hsz)).trans (hb4.mono (Nat.le_trans hsz hb3.size))⟩
          case measure => simp [intOf]; omega
      · have hrow := HV.out.below hb
        have hsum : (ls.map List.length).sum + ls.length ≤ 2147483648 := by have := HZ.out; omega
        have HR := Lib.hid hrow
        have HS := Lib.hid hsum
        clear hrow hsum
        go_wp2_with fail
        refine (octet_Num n _ b00 b01).mono ?_
        rintro e w3 ⟨rfl, hb3⟩
        go_wp2_with fail
        refine (ref_Num n _ b00 b01).mono ?_
        rintro e w4 ⟨rfl, hb4⟩
        have hb34 := hb3.trans (hb4.mono hb3.size)
        go_wp2_with fail
        refine (octet_List _ ls _ (HR.out.below hb34) HS.out).mono ?_
        rintro e w5 ⟨rfl, hb5⟩
        have hb35 := hb34.trans (hb5.mono hb34.size)
        go_wp2_with fail
        refine (ref_List _ ls _ (HR.out.below hb35) HS.out).mono ?_
        rintro e w6 ⟨rfl, hb6⟩
        have hb36 := hb35.trans (hb6.mono hb35.size)
        go_wp2_with (first
          | (go_at_call 18; refine (octet_Fold _ _ (by omega) (by omega)).mono ?_; rintro e w' ⟨rfl, rfl⟩)
          | (go_at_call 19; refine (ref_Fold _ _ (by omega) (by omega)).mono ?_; rintro e w' ⟨rfl, rfl⟩)
          | (go_at_call 20; refine (octet_Unfold _ _ (by omega) (by omega)).mono ?_; rintro e w' ⟨rfl, rfl⟩)
          | (go_at_call 21; refine (ref_Unfold _ _ (by omega) (by omega)).mono ?_; rintro e w' ⟨rfl, rfl⟩))
        go_ret
        exact ⟨rfl, hb.trans (hb36.mono hsz)⟩

theorem own : ownKnob Try.prog.godebug = none := by kernel_rfl
theorem laidOut : laidOutB Try.prog = true := by kernel_rfl

set_option maxRecDepth 100000 in
theorem lifted (os : Os) (started : os.Started) (H : Type) (enc : TypeId × Value → H) (F : Stop.Interp) :
    ReturnsInHanded {} Try.checked os 3 .any ((Rows.OpenSpec.upto Rows.octetLaysSpec).pre6 enc Try.prog Try.f3 Rows.octetLaysUptoRow.domain false) (((Rows.OpenSpec.upto Rows.octetLaysSpec).at F).post enc Try.prog Try.f3 false true false false) := by
  refine returnsInHanded_of_cond (C := Try.checked) (s := Rows.OpenSpec.upto Rows.octetLaysSpec) (k := Rows.uptoSmall) rfl own started (by kernel_rfl) Try.func3
    (OpenSpec.witness (enc := enc) (C := Try.checked) (s := Rows.OpenSpec.upto Rows.octetLaysSpec) (k := Rows.uptoSmall) rfl false ⟨#[], #[.int .u64 0, .slice none 0 0, .int .i64 0], []⟩ 8 (by kernel_rfl) (by kernel_rfl) (by kernel_rfl)
      (x := ([.lit (.int .u64 0), .nil, .lit (.int .i64 0)], [], [])) (by kernel_rfl) rfl (by kernel_rfl)) ?_
  intro W base args ds gs before hval0 hW hcnd hk _
  have hval : ∀ (j : Nat) t v, Try.f3.params[j]? = some t → args[j]? = some v → Value.okWide Try.prog W .any base t v := hval0
  have hW' := hW
  have hlt := hW.lt
  obtain ⟨p, q, hA0, hV, rfl, hfz, hnd⟩ := hW
  have hA : DataW.TrodAll enc Try.prog W 0 (fun _ => true) true Try.f3.params.toList args.toList ds p := hA0
  rw [Try.params3] at hA hval
  obtain ⟨v0, vs0, d0, ds0, p0, q0, hargs, rfl, rfl, h0, r0⟩ := trodAll_cons hA
  obtain ⟨v1, vs1, d1, ds1, p1, q1, rfl, rfl, rfl, h1, r1⟩ := trodAll_cons r0
  obtain ⟨v2, vs2, d2, ds2, p2, q2, rfl, rfl, rfl, h2, r2⟩ := trodAll_cons r1
  obtain ⟨rfl, rfl, rfl⟩ := trodAll_nil r2
  obtain rfl : args = #[v0, v1, v2] := by cases args; simp_all
  obtain ⟨rfl, rfl⟩ := trodVars_none hV
  obtain ⟨a0, rfl, rfl, rfl, w0⟩ := open_int Try.underlying22 (hval 0 22 v0 rfl rfl) h0
  obtain ⟨a1, w1, e1⟩ := open_texts Try.underlying23 Try.underlying9 (by kernel_rfl) (hval 1 23 v1 rfl rfl) h1 (fun x hx => hlt x (by simp [hx]))
  have z1 := bulk_texts e1 (bulk_le hk (by simp))
  obtain ⟨a2, rfl, rfl, rfl, w2⟩ := open_int Try.underlying3 (hval 2 3 v2 rfl rfl) h2
  refine (walk W a0 w0 v1 a1 w1 z1 a2 w2).mono fun e W' ⟨he, hg⟩ => ?_
  subst he
  exact ⟨_, rfl, Copyhold.law_post laidOut (by kernel_rfl) (by kernel_rfl) Try.underlying4 rfl rfl rfl rfl hW' hg⟩

theorem over : Rows.octetLaysUptoRow.holds Try.pinned (Rows.OpenSpec.upto Rows.octetLaysSpec) :=
  OpenClaim.holds_of_cond 3 Try.f3 rfl rfl rfl rfl rfl rfl rfl ⟨rfl, rfl, rfl, rfl, rfl⟩ rfl rfl rfl rfl rfl (by kernel_rfl) Try.func3 (by kernel_rfl)
    (of_decide_eq_true (by kernel_rfl)) (by unfold Func.isWrapper; first | (rw [if_pos (by decide +kernel)]; kernel_rfl) | (rw [if_neg (by decide +kernel)]; exact ⟨rfl, rfl⟩))
    (fun os started H enc _ F => lifted os started H enc F)

theorem proved : Rows.OctetLaysUptoSaid :=
  over
end Go.Proofs.Ytibgedkaollniaa.octetLays
