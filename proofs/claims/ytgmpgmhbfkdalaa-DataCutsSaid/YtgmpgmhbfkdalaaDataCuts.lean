/- Proved: copyholdlaw09.DataCuts returns true for every text and number, and leaves its arguments as they were: a text that is cut has as many bytes as are asked for; its first ones are as they were, what is new is 0. No condition beyond the form's own reach. -/
import Derived.Test.YtgmpgmhbfkdalaaDataShown
import Derived.Test.YtgmpgmhbfkdalaaLaw
import Derived.BigRegion
namespace Go.Proofs.Ytgmpgmhbfkdalaa.dataCuts
open Go.ChangeShapes Go.WideShapes Go.ChangeAt Go.RowKit Copyhold
open Go.ChangeMaps (open_string shut_string)
set_option linter.unusedVariables false
attribute [local go_sem] piece

set_option maxHeartbeats 2000000 in
theorem walk (w : World) (l : List UInt8) (z0 : l.length ≤ 140737488351232) (n : Int) (w1 : (Lit.int .i64 n).wf = true) :
    Calls Try.prog 7 #[.string ⟨l.toArray⟩, .int .i64 n] w fun e w' => e = .returned (.bool true) ∧ Below w.heap.size w w' := by
  have b1 : -9223372036854775808 ≤ n ∧ n ≤ 9223372036854775807 := by simpa [Lit.wf, IntKind.min, IntKind.max, IntKind.signed, IntKind.bits] using w1
  obtain ⟨b10, b11⟩ := b1
  clear w1
  by_cases hlen : 5000 < l.length
  · go_enter Try.func7, Try.ntmps7
    go_wp2_with fail
    refine (law_shown _).mono ?_
    rintro e w1 ⟨rfl, hb1⟩
    go_wp2_with fail
    go_ret
    exact ⟨rfl, hb1⟩
  · by_cases hr : refusedD 0 n = 0
    · have hn := refusedD_zero hr
      have hc : cutD l n = (fillD l n.toNat, 0) := if_pos hr
      rcases (show n ≤ (l.length : Int) ∨ (l.length : Int) < n from by omega) with h2 | h2
      · obtain ⟨n, rfl⟩ := Int.eq_ofNat_of_zero_le hn.2.1
        have hf : fillD l n = l.take n := by
          unfold fillD
          rw [show n - l.length = 0 from by omega]
          simp
        rw [Int.toNat_natCast, hf] at hc
        have HC := Lib.hid hc
        clear hc hf hr hn b10
        go_enter Try.func7, Try.ntmps7
        go_wp2_with fail
        refine (law_shown _).mono ?_
        rintro e w1 ⟨rfl, hb1⟩
        go_wp2_with fail
        refine (data_Cut l n _ (by omega) (by omega) (by omega)).mono ?_
        rintro e w2 ⟨rfl, hb2⟩
        have hb2 := hb1.trans (hb2.mono hb1.size)
        clear hb1
        rw [HC.out]
        have hkl : (l.take n).length = n := by simp; omega
        go_wp2_with fail
        go_ret
        exact ⟨rfl, hb2⟩
      · obtain ⟨d, hd⟩ : ∃ d : Nat, n = (l.length : Int) + d := ⟨(n - l.length).toNat, by omega⟩
        have hf : fillD l n.toNat = l ++ List.replicate d 0 := by
          unfold fillD
          rw [show n.toNat - l.length = d from by omega, List.take_of_length_le (by omega)]
        rw [hf] at hc
        have hrl : (List.replicate d (0 : UInt8)).length = d := List.length_replicate
        have hmk := fun W : World => run_make_bytes W d (by omega)
        have hk := fun W : World => run_bytes_back (w := (W.alloc (.cells (Lib.byteCells (List.replicate d 0)).toArray 5)).drew) (g := W.heap.size) (l := List.replicate d 0) (heap_alloc_new W _)
        rw [List.length_replicate] at hk
        generalize hR : List.replicate d (0 : UInt8) = R at *
        obtain ⟨K, hK⟩ : ∃ K, K = l ++ R := ⟨_, rfl⟩
        have hKt : K.take l.length = l := by rw [hK]; simp
        have hKd : K.drop l.length = R := by rw [hK]; simp
        have hKl : (K.length : Int) = n := by rw [hK, List.length_append]; omega
        have hKle : l.length ≤ K.length := by omega
        have hKle' : (l.length : Int) ≤ (K.length : Int) := by omega
        have hl0 : (0 : Int) ≤ (l.length : Int) := by omega
        have hln : ¬ (n ≤ (l.length : Int)) := by omega
        have hKn : ((K.length : Int) == n) = true := by rw [beq_iff_eq]; exact hKl
        have e1 : IntKind.i64.wrap (n - l.length) = d := by rw [show n - l.length = d from by omega]; exact IntWalk.i64_in _ (by omega)
        rw [← hK] at hc
        have HC := Lib.hid hc
        clear hc hf hR hK hrl hd hr hKl
        go_enter Try.func7, Try.ntmps7
        go_wp2_with fail
        refine (law_shown _).mono ?_
        rintro e w1 ⟨rfl, hb1⟩
        go_wp2_with fail
        refine (data_Cut l n _ (by omega) (by omega) (by omega)).mono ?_
        rintro e w2 ⟨rfl, hb2⟩
        have hb2 := hb1.trans (hb2.mono hb1.size)
        clear hb1
        rw [HC.out]
        go_wp2_with fail
        go_big_region
        all_goals
          go_wp2_with fail
          go_ret
          exact ⟨rfl, (hb2.alloc hb2.size _).drew⟩
    · have hc : cutD l n = (l, refusedD 0 n) := if_neg hr
      have hbad : n < 0 ∨ 4096 < n := by
        unfold refusedD at hr
        split at hr
        · split at hr <;> omega
        · omega
      generalize refusedD 0 n = z at hr hc
      have HC := Lib.hid hc
      have hq : (z == 0) = false := by simpa using hr
      clear hc hr
      rcases hbad with hbad | hbad
      all_goals
        go_enter Try.func7, Try.ntmps7
        go_wp2_with fail
        refine (law_shown _).mono ?_
        rintro e w1 ⟨rfl, hb1⟩
        go_wp2_with fail
        refine (data_Cut l n _ (by omega) (by omega) (by omega)).mono ?_
        rintro e w2 ⟨rfl, hb2⟩
        have hb2 := hb1.trans (hb2.mono hb1.size)
        clear hb1
        rw [HC.out]
        go_wp2_with fail
        go_ret
        exact ⟨rfl, hb2⟩

theorem own : ownKnob Try.prog.godebug = none := by kernel_rfl
theorem laidOut : laidOutB Try.prog = true := by kernel_rfl

set_option maxRecDepth 100000 in
set_option maxHeartbeats 1000000 in
theorem lifted (os : Os) (started : os.Started) (H : Type) (enc : TypeId × Value → H) :
    ReturnsInHanded {} Try.checked os 7 .any (Rows.dataCutsSpec.pre6 enc Try.prog Try.f7 Rows.dataCutsRow.domain false) (Rows.dataCutsSpec.post enc Try.prog Try.f7 false true false false) := by
  refine returnsInHanded_of_change_sized (C := Try.checked) own started (by kernel_rfl) Try.func7
    (ChangeSpec.witness6 (enc := enc) (C := Try.checked) false ⟨#[], #[.string ByteArray.empty, .int .i64 0], []⟩ 8 (by kernel_rfl) (by kernel_rfl) (by kernel_rfl) (by kernel_rfl)) ?_
  intro W base args ds gs before hval0 hW hcnd hsz0 _
  have hsz : (DataW.weightsEach Try.prog (Try.f7.params.toList ++ []) (ds ++ gs)).all (· ≤ reachBytes) = true := hsz0
  clear hsz0
  have hval : ∀ (j : Nat) t v, Try.f7.params[j]? = some t → args[j]? = some v → Value.okWide Try.prog W .any base t v := hval0
  have hW' := hW
  have hlt := hW.lt
  obtain ⟨p, q, hA0, hV, rfl, hfz, hnd⟩ := hW
  have hA : DataW.TrodAll enc Try.prog W 0 (fun _ => true) true Try.f7.params.toList args.toList ds p := hA0
  rw [Try.params7] at hA hval
  obtain ⟨v0, vs0, d0, ds0, p0, q0, hargs, rfl, rfl, h0, r0⟩ := trodAll_cons hA
  obtain ⟨v1, vs1, d1, ds1, p1, q1, rfl, rfl, rfl, h1, r1⟩ := trodAll_cons r0
  obtain ⟨rfl, rfl, rfl⟩ := trodAll_nil r1
  obtain rfl : args = #[v0, v1] := by cases args; simp_all
  obtain ⟨rfl, rfl⟩ := trodVars_none hV
  obtain ⟨s0, rfl, rfl, rfl, w0⟩ := open_string Try.underlying9 (hval 0 9 v0 rfl rfl) h0
  have z0 : s0.data.toList.length ≤ 140737488351232 := sized_string hsz (j := 0) (t := 9) (by rw [Try.params7]; rfl) rfl
  obtain ⟨a0, rfl⟩ : ∃ l : List UInt8, s0 = ⟨l.toArray⟩ := ⟨s0.data.toList, rfl⟩
  obtain ⟨a1, rfl, rfl, rfl, w1⟩ := open_int Try.underlying3 (hval 1 3 v1 rfl rfl) h1
  refine (walk W a0 z0 a1 w1).mono fun e W' ⟨he, hg⟩ => ?_
  subst he
  exact ⟨_, rfl, Copyhold.law_post laidOut (by kernel_rfl) (by kernel_rfl) Try.underlying4 rfl rfl rfl rfl hW' hg⟩

theorem over : Rows.dataCutsRow.holds Try.pinned (OpenSpec.ofChange Rows.dataCutsSpec) :=
  OpenClaim.holds_of_wide 7 Try.f7 rfl rfl rfl rfl rfl rfl rfl ⟨rfl, rfl, rfl, rfl, rfl⟩ rfl rfl rfl rfl rfl (by kernel_rfl) Try.func7 (by kernel_rfl)
    (of_decide_eq_true (by kernel_rfl)) (by unfold Func.isWrapper; first | (rw [if_pos (by decide +kernel)]; kernel_rfl) | (rw [if_neg (by decide +kernel)]; exact ⟨rfl, rfl⟩))
    (fun os started H enc _ => lifted os started H enc)

theorem proved : Rows.DataCutsSaid :=
  over
end Go.Proofs.Ytgmpgmhbfkdalaa.dataCuts
