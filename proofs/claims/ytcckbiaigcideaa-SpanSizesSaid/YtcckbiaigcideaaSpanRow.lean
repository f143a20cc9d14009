/- copyholdlaw03.row: spans of pairs of whole numbers (what may not be: an empty one); copyholdref03.Same: two rows are the same just if their spans are. Old memory is as it was. -/
import Derived.Test.YtcckbiaigcideaaSpanClean2
import Derived.Test.YtcckbiaigcideaaSpanShifts
import Derived.Test.YtcckbiaigcideaaLawPairs
import Derived.OrdersHeld
set_option linter.unusedVariables false
set_option linter.unusedSimpArgs false
namespace Go.Proofs.Ytcckbiaigcideaa
open Go.RowKit Copyhold

noncomputable def givens (ps : List (Int × Int)) : List (Nat × Nat) := ps.map fun p => givenD p.1 p.2
theorem givens_le (ps : List (Int × Int)) : ∀ q ∈ givens ps, q.1 + q.2 ≤ 1099511627776 := by
  intro q hq
  obtain ⟨p, _, rfl⟩ := List.mem_map.1 hq
  exact givenD_le _ _
theorem givens_len (ps : List (Int × Int)) : (givens ps).length = ps.length := List.length_map ..
theorem spans_wf {z : Int} (w : (Lit.int .i64 z).wf = true) : -9223372036854775808 ≤ z ∧ z ≤ 9223372036854775807 := by
  simpa [Lit.wf, IntKind.min, IntKind.max, IntKind.signed, IntKind.bits] using w

/-- one span more onto a row of one's own -/
theorem push_own {w W : World} {A : Option Addr} {c : Nat} {n : Nat} {acc : List (Nat × Nat)} (q : Nat × Nat) (hown : W.ownsRow w.heap.size 24 1 (.slice A n c) n (acc.map spV)) (hb : Below w.heap.size w W) (hn : n ≤ 1000) :
    ∃ A' c' w', (Builtin.append_ #[45, 45] 45 #[.slice A n c, .slice (some ⟨W.heap.size, 0, none⟩) 1 1]).run Try.prog (W.alloc (.cells #[.complex .f64 (fl q.1) (fl q.2)] 24)) = .ok (.slice A' (n + 1) c') w' ∧ w'.ownsRow w.heap.size 24 1 (.slice A' (n + 1) c') (n + 1) ((acc ++ [q]).map spV) ∧ Below w.heap.size w w' := by
  have hbs := hb.size
  obtain ⟨v', w', hrun, ho, hgr, _⟩ := append_sl spElem (W.alloc (.cells #[.complex .f64 (fl q.1) (fl q.2)] 24)) w.heap.size 45 (.slice A n c) n _ (hown.alloc _) _ 1 [.complex .f64 (fl q.1) (fl q.2)] (sl_one1 _ _ _) (fun u hu => by simp at hu; subst hu; rfl) (by unfold maxLen; omega) (by omega) (by simp; omega)
  obtain ⟨A', c', rfl, -, -⟩ := (Sl.of_owns ho).shape
  exact ⟨A', c', w', hrun, by rw [List.map_append]; exact ho, ((hb.alloc hbs _).grown hgr (by simp; omega) (fun g hg => (own_block_ge hown g hg).1))⟩

set_option maxRecDepth 100000 in
set_option maxHeartbeats 4000000 in
theorem law_row (ps : List (Int × Int)) (A : Option Addr) (c : Nat) (w : World) (hn : ps.length ≤ 1000) (hr : Sl w 2 (.slice A ps.length c) ps.length (ps.flatMap pairV)) (hw : ∀ p ∈ ps, (Lit.int .i64 p.1).wf = true ∧ (Lit.int .i64 p.2).wf = true) :
    Calls Try.prog 24 #[.slice A ps.length c] w (RetSp w (givens ps)) := by
  have HR := Lib.hid hr
  have HW := Lib.hid hw
  have HGL := Lib.hid (givens_len ps)
  clear hr hw
  go_enter Try.func24, Try.ntmps24
  go_wp2_with fail
  go_loopw [3, 4] (fun so si wr => ∃ (k : Nat) (A1 : Option Addr) (c1 : Nat), si = .int .i64 k ∧ k ≤ ps.length ∧ so = .slice A1 k c1 ∧ wr.ownsRow w.heap.size 24 1 (.slice A1 k c1) k ((givens (ps.take k)).map spV) ∧ Below w.heap.size w wr) (fun _ si _ => ps.length - (intOf si).toNat)
  case atStart => exact ⟨0, none, 0, rfl, Nat.zero_le _, rfl, by simpa [givens] using World.ownsRow_nil w w.heap.size 24 1, Below.refl _ _⟩
  case round =>
    obtain ⟨k, A1, c1, rfl, hk, rfl, hown, hb⟩ := hrel
    by_cases hlt : k < ps.length
    · obtain ⟨p, hp⟩ : ∃ p, p = ps[k] := ⟨_, rfl⟩
      have hwp := HW.out p (by rw [hp]; exact List.getElem_mem _)
      obtain ⟨p10, p11⟩ := spans_wf hwp.1
      obtain ⟨p20, p21⟩ := spans_wf hwp.2
      obtain ⟨b, off, rfl, hbo, _, _, hcl0⟩ := HR.out.at (by omega)
      have hcl : ∀ j x, (ps.flatMap pairV)[j]? = some x → wr.cell? ⟨b, off + j, none⟩ = some x := fun j x hx => (hb.cell (p := ⟨b, off + j, none⟩) hbo).trans (hcl0 j x hx)
      have hbk : b < wr.heap.size := by have := hb.size; omega
      clear hcl0
      have hg := flat2_get ps k
      rw [List.getElem?_eq_getElem hlt, ← hp] at hg
      have c0 : wr.cell? ⟨b, off + k * 2, none⟩ = some (.int .i64 p.1) := by rw [Nat.mul_comm k 2]; exact hcl _ _ hg.1
      have c1' : wr.cell? ⟨b, off + k * 2 + 1, none⟩ = some (.int .i64 p.2) := by rw [Nat.mul_comm k 2, Nat.add_assoc]; exact hcl _ _ hg.2
      have hstep : givens (ps.take (k + 1)) = givens (ps.take k) ++ [givenD p.1 p.2] := by rw [List.take_succ_eq_append_getElem hlt, givens, List.map_append, ← hp]; rfl
      have HSTEP := Lib.hid hstep
      have hki : (k : Int) < (ps.length : Int) := by omega
      have hk0 : (0 : Int) ≤ (k : Int) := by omega
      have HC := Lib.hid (fun W : World => law_given p.1 p.2 W p10 p11 p20 p21)
      obtain ⟨q, hq⟩ : ∃ q, q = givenD p.1 p.2 := ⟨_, rfl⟩
      rw [← hq] at HC HSTEP
      obtain ⟨A', c', w', hrun, ho, hbw⟩ := push_own q (show wr.drew.ownsRow w.heap.size _ _ _ _ _ from hown) (below_dn hb 1) (by omega)
      have HO := Lib.hid ho
      have HB' := Lib.hid hbw
      have HQ0 : Hid (w'.cell? ⟨b, off + k * 2, none⟩ = some (.int .i64 p.1)) := Lib.hid ((hbw.cell (p := ⟨b, off + k * 2, none⟩) hbo).trans ((hb.cell (p := ⟨b, off + k * 2, none⟩) hbo).symm.trans c0))
      have HQ1 : Hid (w'.cell? ⟨b, off + k * 2 + 1, none⟩ = some (.int .i64 p.2)) := Lib.hid ((hbw.cell (p := ⟨b, off + k * 2 + 1, none⟩) hbo).trans ((hb.cell (p := ⟨b, off + k * 2 + 1, none⟩) hbo).symm.trans c1'))
      clear hcl hg hstep hp hwp hq hown ho hbw hbo
      go_wp2_with fail
      refine wp_region_held_drew (S := fun V => V.cell? ⟨b, off + k * 2, none⟩ = some (.int .i64 p.1) ∧ V.cell? ⟨b, off + k * 2 + 1, none⟩ = some (.int .i64 p.2)) (by kernel_rfl) (⟨c0, c1'⟩) (fun hHeld => ?_)
      refine wpAnyH_take (i := 0) (v := ?_) rfl (by kernel_rfl) (by kernel_rfl) (by kernel_rfl) (fun _ _ _ h => h) (Or.inl ⟨by rfl, ?_⟩) (by assumption) ?_
      rotate_left
      · intro X hSw
        go_simp
        try with_reducible rfl
      rotate_left
      try simp only [Act.put, List.setIfInBounds_toArray, List.set_cons_zero, List.set_cons_succ, List.getElem_toArray, List.getElem_cons_zero, List.getElem_cons_succ]
      refine wpAnyH_take (i := 1) (v := ?_) rfl (by kernel_rfl) (by kernel_rfl) (by kernel_rfl) (fun _ _ _ h => h) (Or.inl ⟨by rfl, ?_⟩) (by assumption) ?_
      rotate_left
      · intro X hSw
        go_simp
        try with_reducible rfl
      rotate_left
      try simp only [Act.put, List.setIfInBounds_toArray, List.set_cons_zero, List.set_cons_succ, List.getElem_toArray, List.getElem_cons_zero, List.getElem_cons_succ]
      refine wpAnyH_take (i := 2) (v := ?_) rfl (by kernel_rfl) (by kernel_rfl) (by kernel_rfl) (fun _ _ _ h => h) (Or.inl ⟨by rfl, ?_⟩) (by assumption) ?_
      rotate_left
      · intro X hSw
        go_simp
        try with_reducible rfl
      rotate_left
      try simp only [Act.put, List.setIfInBounds_toArray, List.set_cons_zero, List.set_cons_succ, List.getElem_toArray, List.getElem_cons_zero, List.getElem_cons_succ]
      refine wpAnyH_take (i := 3) (v := ?_) rfl (by kernel_rfl) (by kernel_rfl) (by kernel_rfl) (fun _ _ _ h => h) (Or.inl ⟨by rfl, ?_⟩) (by assumption) ?_
      rotate_left
      · intro X hSw
        go_simp
        try with_reducible rfl
      rotate_left
      try simp only [Act.put, List.setIfInBounds_toArray, List.set_cons_zero, List.set_cons_succ, List.getElem_toArray, List.getElem_cons_zero, List.getElem_cons_succ]
      refine wpAnyH_take (i := 4) (v := ?_) rfl (by kernel_rfl) (by kernel_rfl) (by kernel_rfl) (fun _ _ _ h => h) (Or.inl ⟨by rfl, ?_⟩) (by assumption) ?_
      rotate_left
      · intro X hSw
        go_simp
        try with_reducible rfl
      rotate_left
      try simp only [Act.put, List.setIfInBounds_toArray, List.set_cons_zero, List.set_cons_succ, List.getElem_toArray, List.getElem_cons_zero, List.getElem_cons_succ]
      refine wpAnyH_take (i := 5) (v := ?_) rfl (by kernel_rfl) (by kernel_rfl) (by kernel_rfl) (fun _ _ _ h => h) (Or.inl ⟨by rfl, ?_⟩) (by assumption) ?_
      rotate_left
      · intro X hSw
        have hc0 := hSw.1
        go_simp
        try with_reducible rfl
      rotate_left
      try simp only [Act.put, List.setIfInBounds_toArray, List.set_cons_zero, List.set_cons_succ, List.getElem_toArray, List.getElem_cons_zero, List.getElem_cons_succ]
      refine wpAnyH_take (i := 6) (v := ?_) rfl (by kernel_rfl) (by kernel_rfl) (by kernel_rfl) (fun _ _ _ h => h) (Or.inl ⟨by rfl, ?_⟩) (by assumption) ?_
      rotate_left
      · intro X hSw
        go_simp
        try with_reducible rfl
      rotate_left
      try simp only [Act.put, List.setIfInBounds_toArray, List.set_cons_zero, List.set_cons_succ, List.getElem_toArray, List.getElem_cons_zero, List.getElem_cons_succ]
      refine wpAnyH_take (i := 7) (v := ?_) rfl (by kernel_rfl) (by kernel_rfl) (by kernel_rfl) (fun _ _ _ h => h) (Or.inl ⟨by rfl, ?_⟩) (by assumption) ?_
      rotate_left
      · intro X hSw
        go_simp
        try with_reducible rfl
      rotate_left
      try simp only [Act.put, List.setIfInBounds_toArray, List.set_cons_zero, List.set_cons_succ, List.getElem_toArray, List.getElem_cons_zero, List.getElem_cons_succ]
      refine wpAnyH_take (i := 8) (v := ?_) rfl (by kernel_rfl) (by kernel_rfl) (by kernel_rfl) (fun _ _ _ h => h) (Or.inl ⟨by rfl, ?_⟩) (by assumption) ?_
      rotate_left
      · intro X hSw
        go_simp
        try with_reducible rfl
      rotate_left
      try simp only [Act.put, List.setIfInBounds_toArray, List.set_cons_zero, List.set_cons_succ, List.getElem_toArray, List.getElem_cons_zero, List.getElem_cons_succ]
      refine wpAnyH_take (i := 9) (v := ?_) rfl (by kernel_rfl) (by kernel_rfl) (by kernel_rfl) (fun _ _ _ h => h) (Or.inl ⟨by rfl, ?_⟩) (by assumption) ?_
      rotate_left
      · intro X hSw
        go_simp
        try with_reducible rfl
      rotate_left
      try simp only [Act.put, List.setIfInBounds_toArray, List.set_cons_zero, List.set_cons_succ, List.getElem_toArray, List.getElem_cons_zero, List.getElem_cons_succ]
      refine wpAnyH_take (i := 10) (v := ?_) rfl (by kernel_rfl) (by kernel_rfl) (by kernel_rfl) (fun _ _ _ h => h) (Or.inl ⟨by rfl, ?_⟩) (by assumption) ?_
      rotate_left
      · intro X hSw
        have hc0 := hSw.2
        go_simp
        try with_reducible rfl
      rotate_left
      try simp only [Act.put, List.setIfInBounds_toArray, List.set_cons_zero, List.set_cons_succ, List.getElem_toArray, List.getElem_cons_zero, List.getElem_cons_succ]
      refine wpAnyH_ready (rs := [11]) (by kernel_rfl) (by simp) ?_
      refine (AllReadyH.cons rfl (fun K hK => ?_) AllReadyH.nil)
      rw [if_pos (by rfl)]
      go_wp2_with fail
      refine (HC.out _).mono ?_
      rintro e wq ⟨rfl, rfl⟩
      refine hK.out _ _ hHeld (fun _ => ?_)
      clear hK K
      try simp only [Act.put, List.setIfInBounds_toArray, List.set_cons_zero, List.set_cons_succ, List.getElem_toArray, List.getElem_cons_zero, List.getElem_cons_succ]
      refine wpAnyH_ready (rs := [12]) (by kernel_rfl) (by simp) ?_
      refine (AllReadyH.cons rfl (fun K hK => ?_) AllReadyH.nil)
      rw [if_pos (by rfl)]
      go_wp2_with fail
      have hHeld := And.intro (cell_alloc (.cells #[.complex .f64 (fl q.1) (fl q.2)] 24) hHeld.1) (cell_alloc (.cells #[.complex .f64 (fl q.1) (fl q.2)] 24) hHeld.2)
      refine hK.out _ _ hHeld (fun _ => ?_)
      clear hK K
      try simp only [Act.put, List.setIfInBounds_toArray, List.set_cons_zero, List.set_cons_succ, List.getElem_toArray, List.getElem_cons_zero, List.getElem_cons_succ]
      refine wpAnyH_ready (rs := [13]) (by kernel_rfl) (by simp) ?_
      refine (AllReadyH.cons rfl (fun K hK => ?_) AllReadyH.nil)
      refine step_append_run rfl _ _ _ rfl _ _ _ _ rfl rfl hrun ?_
      refine hK.out _ _ ⟨HQ0.out, HQ1.out⟩ (fun _ => ?_)
      clear hK K
      try simp only [Act.put, List.setIfInBounds_toArray, List.set_cons_zero, List.set_cons_succ, List.getElem_toArray, List.getElem_cons_zero, List.getElem_cons_succ]
      refine wpAnyH_take (i := 14) (v := ?_) rfl (by kernel_rfl) (by kernel_rfl) (by kernel_rfl) (fun _ _ _ h => h) (Or.inl ⟨by rfl, ?_⟩) (by assumption) ?_
      rotate_left
      · intro X hSw
        go_simp
        try with_reducible rfl
      rotate_left
      try simp only [Act.put, List.setIfInBounds_toArray, List.set_cons_zero, List.set_cons_succ, List.getElem_toArray, List.getElem_cons_zero, List.getElem_cons_succ]
      refine wpAnyH_done (by kernel_rfl) ?_ _
      go_wp2_with fail
      go_roundw
      case rel => exact ⟨k + 1, A', c', by go_num, by omega, rfl, by rw [HSTEP.out]; exact HO.out, HB'.out⟩
      case measure => simp [intOf]; omega
    · obtain rfl : k = ps.length := by omega
      rw [List.take_length] at hown
      have HO := Lib.hid hown
      clear hown
      go_wp2_with fail
      go_ret
      refine ⟨A1, c1, by rw [HGL.out]; rfl, ?_, hb⟩
      rw [HGL.out]
      exact HO.out

theorem complex_eq (p : Nat × Nat) (h : p.1 + p.2 ≤ 1099511627776) : (Op.floatEq .f64 (fl p.1) (fl p.1) && Op.floatEq .f64 (fl p.2) (fl p.2)) = true := by
  rw [spanShifts.floatEq_self _ (by omega), spanShifts.floatEq_self _ (by omega)]
  rfl

set_option maxHeartbeats 2000000 in
theorem ref_Same (xs : List (Nat × Nat)) (hs : ∀ p ∈ xs, p.1 + p.2 ≤ 1099511627776) (hn : xs.length ≤ 1000) (A B : Option Addr) (c d : Nat) (w : World) (hr : Sps w A c xs) (hr' : Sps w B d xs) :
    Calls Try.prog 27 #[.slice A xs.length c, .slice B xs.length d] w fun e w' => e = .returned (.bool true) ∧ Below w.heap.size w w' := by
  have HR := Lib.hid hr.2.row
  have HR' := Lib.hid hr'.2.row
  have HS := Lib.hid hs
  clear hr hr' hs
  go_enter Try.func27, Try.ntmps27
  go_wp2_with fail
  go_loopw [5] (fun si wr => ∃ k : Nat, si = .int .i64 k ∧ k ≤ xs.length ∧ Below w.heap.size w wr) (fun si _ => xs.length - (intOf si).toNat)
  case atStart => exact ⟨0, rfl, Nat.zero_le _, Below.refl _ _⟩
  case round =>
    obtain ⟨k, rfl, hk, hb⟩ := hrel
    by_cases hlt : k < xs.length
    · have hget : (xs.map spV)[k]? = some (spV xs[k]) := by rw [List.getElem?_map, List.getElem?_eq_getElem hlt]; rfl
      obtain ⟨b1, off1, rfl, hbk1, hlen1, hcl1⟩ := (HR.out.below hb).at k hget
      obtain ⟨b2, off2, rfl, hbk2, hlen2, hcl2⟩ := (HR'.out.below hb).at k hget
      have q1 : wr.cell? ⟨b1, off1 + k, none⟩ = some (.complex .f64 (fl xs[k].1) (fl xs[k].2)) := hcl1 k _ hget
      have q2 : wr.cell? ⟨b2, off2 + k, none⟩ = some (.complex .f64 (fl xs[k].1) (fl xs[k].2)) := hcl2 k _ hget
      have hce := complex_eq xs[k] (HS.out xs[k] (List.getElem_mem hlt))
      generalize xs[k] = p at *
      have heq : ∀ W : World, (binOp .neq 24 (.complex .f64 (fl p.1) (fl p.2)) (.complex .f64 (fl p.1) (fl p.2))).run Try.prog W = .ok (.bool false) W := by
        intro W
        simp only [binOp]
        simp [Op.complexOp, Op.Complex.cmp, Op.floatCmp, Op.floatEq, asBool] at hce ⊢
        simp [hce]
      clear hcl1 hcl2 hget hce
      go_wp2_with fail
      go_quiet (fail)
      go_wp2_with fail
      go_roundw
      case rel => exact ⟨k + 1, by go_num, by omega, below_dn hb _⟩
      case measure => simp [intOf]; omega
    · obtain rfl : k = xs.length := by omega
      go_wp2_with fail
      go_ret
      exact ⟨rfl, hb⟩
end Go.Proofs.Ytcckbiaigcideaa
