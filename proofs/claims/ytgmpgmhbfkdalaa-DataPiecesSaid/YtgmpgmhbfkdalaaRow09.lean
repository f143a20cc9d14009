/- copyholdlaw09.row: spans of pairs of whole numbers, those that may be; old memory is as it was. -/
import Derived.Test.YtgmpgmhbfkdalaaRef09U
import Derived.Test.YtgmpgmhbfkdalaaLawPairs
import Derived.Test.YtgmpgmhbfkdalaaRefStrings
set_option linter.unusedVariables false
namespace Go.Proofs.Ytgmpgmhbfkdalaa
open Go.RowKit Copyhold

theorem ref_Of_bad (a b : Int) (w : World) (ha1 : -9223372036854775808 ≤ a) (ha2 : a ≤ 9223372036854775807) (hb1 : -9223372036854775808 ≤ b) (hb2 : b ≤ 9223372036854775807) (h : ¬ ofOk a b) :
    Calls Try.prog 30 #[.int .i64 a, .int .i64 b] w fun e w' => e = .returned (.tuple #[.complex .f64 0 0, .int .i64 1]) ∧ w = w' := by
  unfold ofOk at h
  rcases (show a < 0 ∨ 0 ≤ a ∧ 1099511627776 < a ∨ 0 ≤ a ∧ a ≤ 1099511627776 ∧ b < 0 ∨ 0 ≤ a ∧ a ≤ 1099511627776 ∧ 0 ≤ b ∧ 1099511627776 - a < b from by omega) with h1 | ⟨h1, h2⟩ | ⟨h1, h2, h3⟩ | ⟨h1, h2, h3, h4⟩
  all_goals
    clear h
    go_enter Try.func30, Try.ntmps30
    go_wp2_with fail
    go_ret2
    exact ⟨rfl, rfl⟩

noncomputable def rowD : List (Int × Int) → List (Nat × Nat)
  | [] => []
  | p :: r => open Classical in if ofOk p.1 p.2 then (p.1.toNat, p.2.toNat) :: rowD r else rowD r

theorem rowD_append (a b : List (Int × Int)) : rowD (a ++ b) = rowD a ++ rowD b := by
  induction a with
  | nil => rfl
  | cons p r ih =>
    rw [List.cons_append, rowD, rowD, ih]
    split <;> rfl
theorem rowD_len (a : List (Int × Int)) : (rowD a).length ≤ a.length := by
  induction a with
  | nil => simp [rowD]
  | cons p r ih =>
    rw [rowD]
    split <;> simp <;> omega
theorem rowD_fit (a : List (Int × Int)) : Fit (rowD a) := by
  induction a with
  | nil => intro p hp; cases hp
  | cons p r ih =>
    intro q hq
    rw [rowD] at hq
    split at hq
    · rename_i h
      obtain ⟨h1, h2, h3, h4⟩ := h
      rcases List.mem_cons.1 hq with rfl | hq
      · simp only; omega
      · exact ih q hq
    · exact ih q hq

theorem wf_i64' {z : Int} (w : (Lit.int .i64 z).wf = true) : -9223372036854775808 ≤ z ∧ z ≤ 9223372036854775807 := by
  simpa [Lit.wf, IntKind.min, IntKind.max, IntKind.signed, IntKind.bits] using w

set_option maxHeartbeats 2000000 in
theorem law_row (ps : List (Int × Int)) (lv : Value) (w : World) (hn : ps.length ≤ 1000) (hr : Sl w 2 lv ps.length (ps.flatMap pairV)) (hw : ∀ p ∈ ps, (Lit.int .i64 p.1).wf = true ∧ (Lit.int .i64 p.2).wf = true) :
    Calls Try.prog 18 #[lv] w (RetSpans w (rowD ps)) := by
  obtain ⟨A, c, rfl, -, -⟩ := hr.shape
  have HR := Lib.hid hr
  have HW := Lib.hid hw
  clear hr hw
  go_enter Try.func18, Try.ntmps18
  go_wp2_with fail
  go_loopw [3, 4] (fun so si wr => ∃ (k : Nat) (acc : List (Nat × Nat)), si = .int .i64 k ∧ k ≤ ps.length ∧ acc = rowD (ps.take k) ∧ wr.ownsRow w.heap.size 57 1 so acc.length (acc.map spanV) ∧ Below w.heap.size w wr) (fun _ si _ => ps.length - (intOf si).toNat)
  case atStart => exact ⟨0, [], rfl, Nat.zero_le _, by simp [rowD], by simpa using World.ownsRow_nil w w.heap.size 57 1, Below.refl _ _⟩
  case round =>
    obtain ⟨k, acc, rfl, hk, hacc, hown, hb⟩ := hrel
    have hal : acc.length ≤ 1000 := by rw [hacc]; have := rowD_len (ps.take k); simp at this; omega
    have HACC := Lib.hid hacc
    have HOWN := Lib.hid hown
    clear hacc hown
    by_cases hlt : k < ps.length
    · obtain ⟨p, hp⟩ : ∃ p, p = ps[k] := ⟨_, rfl⟩
      have hwp := HW.out p (by rw [hp]; exact List.getElem_mem _)
      obtain ⟨p10, p11⟩ := wf_i64' hwp.1
      obtain ⟨p20, p21⟩ := wf_i64' hwp.2
      obtain ⟨b, off, rfl, hbk, _, _, hcl⟩ := (HR.out.below hb).at (by omega)
      have hg := flat2_get ps k
      rw [List.getElem?_eq_getElem hlt, ← hp] at hg
      have c0 : wr.cell? ⟨b, off + k * 2, none⟩ = some (.int .i64 p.1) := by rw [Nat.mul_comm k 2]; exact hcl _ _ hg.1
      have c1 : wr.cell? ⟨b, off + k * 2 + 1, none⟩ = some (.int .i64 p.2) := by rw [Nat.mul_comm k 2, Nat.add_assoc]; exact hcl _ _ hg.2
      have hstep : rowD (ps.take (k + 1)) = acc ++ rowD [p] := by rw [List.take_succ_eq_append_getElem hlt, rowD_append, ← hp, HACC.out]
      have HSTEP := Lib.hid hstep
      have hki : (k : Int) < (ps.length : Int) := by omega
      have hk0 : (0 : Int) ≤ (k : Int) := by omega
      clear hcl hg hstep hp hwp
      by_cases hok : ofOk p.1 p.2
      · have hrow : rowD [p] = [(p.1.toNat, p.2.toNat)] := by rw [rowD, if_pos hok]; rfl
        obtain ⟨h1, h2, h3, h4⟩ := id hok
        have HC := Lib.hid (fun W : World => ref_Of9 p.1 p.2 p.1.toNat p.2.toNat W (by omega) (by omega) (by omega))
        have HROW := Lib.hid hrow
        generalize p.1.toNat = x at *
        generalize p.2.toNat = y at *
        clear hrow hok
        go_wp2_with fail
        go_quiet ((go_at_call 30; exact quietL (HC.out _)))
        obtain ⟨v', w', hrun, ho, hgr, _⟩ := append_sl spanElem ((wr.drewN nq).alloc (.cells #[spanV (x, y)] 57)) w.heap.size 40 u3 acc.length _ ((show (wr.drewN nq).ownsRow _ _ _ _ _ _ from HOWN.out).alloc _) _ 1 [spanV (x, y)] (sl_one _ _ _) (fun u hu => by simp at hu; subst hu; rfl) (by unfold maxLen; omega) (by omega) (by have := hb.size; simp; omega)
        have HO := Lib.hid ho
        have HB' := Lib.hid (((below_dn' hb nq).alloc (by have := hb.size; simpa using this) (.cells #[spanV (x, y)] 57)).grown hgr (by have := hb.size; simp; omega) (fun q hq => (own_block_ge HOWN.out q hq).1))
        clear ho hgr
        unfold spanV at hrun
        go_wp2_with (at_builtin; refine wpList_append_run rfl _ _ _ rfl _ _ _ _ rfl rfl hrun ?_)
        go_roundw
        case rel => exact ⟨k + 1, acc ++ [(x, y)], by go_num, by omega, by rw [HSTEP.out, HROW.out], by rw [List.length_append, List.map_append]; exact HO.out, HB'.out⟩
        case measure => simp [intOf]; omega
      · have hrow : rowD [p] = [] := by rw [rowD, if_neg hok]; rfl
        have HC := Lib.hid (fun W : World => ref_Of_bad p.1 p.2 W p10 p11 p20 p21 hok)
        have HROW := Lib.hid hrow
        clear hrow hok
        go_wp2_with fail
        go_quiet ((go_at_call 30; exact quietL (HC.out _)))
        go_wp2_with fail
        go_roundw
        case rel => exact ⟨k + 1, acc, by go_num, by omega, by rw [HSTEP.out, HROW.out, List.append_nil], HOWN.out, below_dn' hb _⟩
        case measure => simp [intOf]; omega
    · have hfin : acc = rowD ps := by rw [HACC.out, List.take_of_length_le (by omega)]
      have HF := Lib.hid hfin
      clear hfin
      go_wp2_with fail
      go_ret
      refine ⟨_, rfl, ?_, hb⟩
      rw [← HF.out]
      exact HOWN.out
end Go.Proofs.Ytgmpgmhbfkdalaa
