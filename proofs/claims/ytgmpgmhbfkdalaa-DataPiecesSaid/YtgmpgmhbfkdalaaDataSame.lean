/- Proved: copyholdlaw09.DataSame returns true for every two texts, and leaves them as they were: where two texts are the same nothing differs; what is cut to its own length is as it was; patched with nothing, too. No condition beyond the form's own reach. -/
import Derived.Test.YtgmpgmhbfkdalaaDataShown
import Derived.Test.YtgmpgmhbfkdalaaLaw
namespace Go.Proofs.Ytgmpgmhbfkdalaa.dataSame
open Go.ChangeShapes Go.WideShapes Go.ChangeAt Go.RowKit Copyhold
open Go.ChangeMaps (open_string shut_string)
set_option linter.unusedVariables false
attribute [local go_sem] piece

theorem unlikeR_nil (a b : List UInt8) (n : Nat) : unlikeR a b n = [] ↔ ∀ i, i < n → a[i]? = b[i]? := by
  induction n with
  | zero => simp [unlikeR]
  | succ n ih =>
    unfold unlikeR
    split
    · rename_i h
      rw [ih]
      exact ⟨fun g i hi => by rcases Nat.lt_or_eq_of_le (Nat.le_of_lt_succ hi) with h' | rfl; exact g i h'; exact h, fun g i hi => g i (by omega)⟩
    · rename_i h
      constructor
      · intro e
        cases hu : unlikeR a b n with
        | nil => rw [hu] at e; simp [bumpR] at e
        | cons x r =>
          rw [hu] at e
          by_cases hx : x.1 + x.2 = n
          · rw [bumpR, if_pos hx] at e; simp at e
          · rw [bumpR, if_neg hx] at e; simp at e
      · intro g
        exact absurd (g n (by omega)) h

theorem unlikeD_nil (a b : List UInt8) : unlikeD a b = [] ↔ a = b := by
  unfold unlikeD
  rw [List.reverse_eq_nil_iff, unlikeR_nil]
  constructor
  · intro h
    apply List.ext_getElem?
    intro i
    rcases Nat.lt_or_ge i (max a.length b.length) with hi | hi
    · exact h i hi
    · rw [List.getElem?_eq_none (by omega), List.getElem?_eq_none (by omega)]
  · rintro rfl i _
    rfl

set_option maxHeartbeats 1000000 in
theorem data_Patch_nil (s : List UInt8) (w : World) (hl : s.length ≤ 140737488355328) :
    Calls Try.prog 19 #[.string ⟨s.toArray⟩, .slice none 0 0, .slice none 0 0] w fun e w' => e = .returned (.tuple #[.string ⟨s.toArray⟩, .int .i64 0]) ∧ Below w.heap.size w w' := by
  go_enter Try.func19, Try.ntmps19
  go_wp2_with fail
  go_loopw [8, 23] (fun so si wr => so = .string ⟨s.toArray⟩ ∧ si = .int .i64 0 ∧ wr = w) (fun _ _ _ => 0)
  case atStart => exact ⟨rfl, rfl, rfl⟩
  case round =>
    obtain ⟨rfl, rfl, rfl⟩ := hrel
    go_wp2_with fail
    go_ret2
    exact ⟨rfl, Below.refl _ _⟩

theorem cut_own (s : List UInt8) (h : s.length ≤ 4000) : cutD s s.length = (s, 0) := by
  have hr : refusedD 0 s.length = 0 := by
    unfold refusedD
    rw [if_pos (by omega), if_neg (by omega)]
  unfold cutD
  rw [if_pos hr, Int.toNat_natCast]
  simp [fillD]

set_option maxHeartbeats 2000000 in
theorem walk (w : World) (s : List UInt8) (z0 : s.length ≤ 140737488351232) (t : List UInt8) (z2 : t.length ≤ 140737488351232) :
    Calls Try.prog 9 #[.string ⟨s.toArray⟩, .string ⟨t.toArray⟩] w fun e w' => e = .returned (.bool true) ∧ Below w.heap.size w w' := by
  rcases (show 4000 < s.length + t.length ∨ s.length + t.length ≤ 4000 from by omega) with h | h
  · go_enter Try.func9, Try.ntmps9
    go_wp2_with fail
    refine (law_shown _).mono ?_
    rintro e w1 ⟨rfl, hb1⟩
    go_wp2_with fail
    go_ret
    exact ⟨rfl, hb1⟩
  · have HC := Lib.hid (cut_own s (by omega))
    obtain ⟨N, hN⟩ : ∃ N, N = (unlikeD s t).length := ⟨_, rfl⟩
    have HN := Lib.hid hN
    have hboth : (((N : Int) == 0) == (s == t)) = true := by
      by_cases hst : s = t
      · have : N = 0 := by rw [hN, (unlikeD_nil s t).2 hst]; rfl
        simp [this, hst]
      · have : N ≠ 0 := by rw [hN]; intro e; exact hst ((unlikeD_nil s t).1 (List.eq_nil_of_length_eq_zero e))
        have h1 : (s == t) = false := by simpa using hst
        have h2 : ((N : Int) == 0) = false := by rw [beq_eq_false_iff_ne]; omega
        rw [h1, h2]; rfl
    clear hN z0 z2
    go_enter Try.func9, Try.ntmps9
    go_wp2_with fail
    refine (law_shown _).mono ?_
    rintro e w1 ⟨rfl, hb1⟩
    go_wp2_with fail
    refine (data_Cut s s.length _ (by omega) (by omega) (by omega)).mono ?_
    rintro e w2 ⟨rfl, hb2⟩
    have hb2 := hb1.trans (hb2.mono hb1.size)
    clear hb1
    rw [HC.out]
    go_wp2_with fail
    refine (data_Patch_nil s _ (by omega)).mono ?_
    rintro e w3 ⟨rfl, hb3⟩
    have hb3 := hb2.trans (hb3.mono hb2.size)
    clear hb2
    go_wp2_with fail
    refine (data_Unlike s t _ (by omega) (by omega)).mono ?_
    rintro e w4 ⟨v, rfl, hown, hb4⟩
    have hb4 := hb3.trans (hb4.mono hb3.size)
    clear hb3
    obtain ⟨ad, c, rfl⟩ := (Row.of_owns hown).shape
    rw [List.length_map, ← HN.out]
    clear hown
    go_wp2_with fail
    go_ret
    exact ⟨rfl, hb4⟩

theorem own : ownKnob Try.prog.godebug = none := by kernel_rfl
theorem laidOut : laidOutB Try.prog = true := by kernel_rfl

set_option maxRecDepth 100000 in
set_option maxHeartbeats 1000000 in
theorem lifted (os : Os) (started : os.Started) (H : Type) (enc : TypeId × Value → H) :
    ReturnsInHanded {} Try.checked os 9 .any (Rows.dataSameSpec.pre6 enc Try.prog Try.f9 Rows.dataSameRow.domain false) (Rows.dataSameSpec.post enc Try.prog Try.f9 false true false false) := by
  refine returnsInHanded_of_change_sized (C := Try.checked) own started (by kernel_rfl) Try.func9
    (ChangeSpec.witness6 (enc := enc) (C := Try.checked) false ⟨#[], #[.string ByteArray.empty, .string ByteArray.empty], []⟩ 8 (by kernel_rfl) (by kernel_rfl) (by kernel_rfl) (by kernel_rfl)) ?_
  intro W base args ds gs before hval0 hW hcnd hsz0 _
  have hsz : (DataW.weightsEach Try.prog (Try.f9.params.toList ++ []) (ds ++ gs)).all (· ≤ reachBytes) = true := hsz0
  clear hsz0
  have hval : ∀ (j : Nat) t v, Try.f9.params[j]? = some t → args[j]? = some v → Value.okWide Try.prog W .any base t v := hval0
  have hW' := hW
  have hlt := hW.lt
  obtain ⟨p, q, hA0, hV, rfl, hfz, hnd⟩ := hW
  have hA : DataW.TrodAll enc Try.prog W 0 (fun _ => true) true Try.f9.params.toList args.toList ds p := hA0
  rw [Try.params9] at hA hval
  obtain ⟨v0, vs0, d0, ds0, p0, q0, hargs, rfl, rfl, h0, r0⟩ := trodAll_cons hA
  obtain ⟨v1, vs1, d1, ds1, p1, q1, rfl, rfl, rfl, h1, r1⟩ := trodAll_cons r0
  obtain ⟨rfl, rfl, rfl⟩ := trodAll_nil r1
  obtain rfl : args = #[v0, v1] := by cases args; simp_all
  obtain ⟨rfl, rfl⟩ := trodVars_none hV
  obtain ⟨s0, rfl, rfl, rfl, w0⟩ := open_string Try.underlying9 (hval 0 9 v0 rfl rfl) h0
  have z0 : s0.data.toList.length ≤ 140737488351232 := sized_string hsz (j := 0) (t := 9) (by rw [Try.params9]; rfl) rfl
  obtain ⟨a0, rfl⟩ : ∃ l : List UInt8, s0 = ⟨l.toArray⟩ := ⟨s0.data.toList, rfl⟩
  obtain ⟨s1, rfl, rfl, rfl, w1⟩ := open_string Try.underlying9 (hval 1 9 v1 rfl rfl) h1
  have z1 : s1.data.toList.length ≤ 140737488351232 := sized_string hsz (j := 1) (t := 9) (by rw [Try.params9]; rfl) rfl
  obtain ⟨a1, rfl⟩ : ∃ l : List UInt8, s1 = ⟨l.toArray⟩ := ⟨s1.data.toList, rfl⟩
  refine (walk W a0 z0 a1 z1).mono fun e W' ⟨he, hg⟩ => ?_
  subst he
  exact ⟨_, rfl, Copyhold.law_post laidOut (by kernel_rfl) (by kernel_rfl) Try.underlying4 rfl rfl rfl rfl hW' hg⟩

theorem over : Rows.dataSameRow.holds Try.pinned (OpenSpec.ofChange Rows.dataSameSpec) :=
  OpenClaim.holds_of_wide 9 Try.f9 rfl rfl rfl rfl rfl rfl rfl ⟨rfl, rfl, rfl, rfl, rfl⟩ rfl rfl rfl rfl rfl (by kernel_rfl) Try.func9 (by kernel_rfl)
    (of_decide_eq_true (by kernel_rfl)) (by unfold Func.isWrapper; first | (rw [if_pos (by decide +kernel)]; kernel_rfl) | (rw [if_neg (by decide +kernel)]; exact ⟨rfl, rfl⟩))
    (fun os started H enc _ => lifted os started H enc)

theorem proved : Rows.DataSameSaid :=
  over
end Go.Proofs.Ytgmpgmhbfkdalaa.dataSame
