/- copyholdref03.part, Parts, copyholdref09.Pieces, Patch: over spans of whole numbers they answer as the document says; old memory is as it was. -/
import Derived.Test.YtgmpgmhbfkdalaaRef09W
import Derived.Test.YtgmpgmhbfkdalaaMend
set_option linter.unusedVariables false
namespace Go.Proofs.Ytgmpgmhbfkdalaa
open Go.RowKit Copyhold
attribute [local go_sem] piece

theorem order_zero (n : Nat) (h : n < 2 ^ 53) (h0 : n ≠ 0) : FloatKind.f64.format.order (fl n) 0 = some .gt := by
  have h1 : FloatKind.f64.format.order (fl n) (fl 0) = some (compare n 0) := fl_order n 0 h (by decide)
  rw [Nat.compare_eq_gt.2 (by omega)] at h1
  exact h1
theorem order_zz : FloatKind.f64.format.order 0 0 = some .eq := by decide +kernel
theorem fl_limit : fl 1099511627776 = 4787326403894837248 := by decide +kernel
theorem fl_self9 (n : Nat) (h : n < 2 ^ 53) : FloatKind.f64.format.order (fl n) (fl n) = some .eq := by
  rw [fl_order n n h h, Nat.compare_eq_eq.2 rfl]

set_option maxHeartbeats 1000000 in
theorem ref_part0 (w : World) : Calls Try.prog 34 #[.float .f64 0] w fun e w' => e = .returned (.int .i64 0) ∧ w = w' := by
  have hz := order_zz
  have hlim : FloatKind.f64.format.order 0 4787326403894837248 = some .lt := by decide +kernel
  have hcv := fun W : World => run_convert_float_int (P := Try.prog) W 56 3 .f64 .i64 0 0 rfl rfl (by decide +kernel)
  have hfo : floatOfInt .f64 0 = 0 := by decide +kernel
  have hq := fun W : World => run_float_arith (P := Try.prog) W .quo 56 .f64 4607182418800017408 0 9218868437227405312 (by decide +kernel)
  have hinf : FloatKind.f64.format.order 9218868437227405312 0 = some .gt := by decide +kernel
  go_enter Try.func34, Try.ntmps34
  go_wp2_with fail
  go_ret
  exact ⟨rfl, rfl⟩

set_option maxHeartbeats 1000000 in
theorem ref_part (n : Nat) (h : n ≤ 1099511627776) (w : World) : Calls Try.prog 34 #[.float .f64 (fl n)] w fun e w' => e = .returned (.int .i64 n) ∧ w = w' := by
  by_cases h0 : n = 0
  · subst h0
    exact ref_part0 w
  · have hz := order_zero n (by omega) h0
    have hself := fl_self9 n (by omega)
    have hlim : FloatKind.f64.format.order (fl n) 4787326403894837248 = some .lt ∨ FloatKind.f64.format.order (fl n) 4787326403894837248 = some .eq := by
      have := fl_order n 1099511627776 (by omega) (by omega)
      rw [fl_limit] at this
      rcases Nat.lt_or_eq_of_le h with h1 | h1
      · rw [Nat.compare_eq_lt.2 h1] at this; exact .inl this
      · rw [Nat.compare_eq_eq.2 h1] at this; exact .inr this
    have hcv := fun W : World => run_convert_float_int (P := Try.prog) W 56 3 .f64 .i64 (fl n) n rfl rfl (fl_int n (by omega))
    have hfo := fl_conv n
    have hn0 : ((n : Int) == 0) = false := by rw [beq_eq_false_iff_ne]; omega
    rcases hlim with hlim | hlim
    all_goals
      go_enter Try.func34, Try.ntmps34
      go_wp2_with fail
      go_ret
      exact ⟨rfl, rfl⟩

theorem ref_Parts (a b : Nat) (h : a + b ≤ 1099511627776) (w : World) : Calls Try.prog 32 #[.complex .f64 (fl a) (fl b)] w fun e w' => e = .returned (.tuple #[.int .i64 a, .int .i64 b]) ∧ w = w' := by
  go_enter Try.func32, Try.ntmps32
  go_wp2_with fail
  refine (ref_part a (by omega) _).mono ?_
  rintro e w1 ⟨rfl, rfl⟩
  go_wp2_with fail
  refine (ref_part b (by omega) _).mono ?_
  rintro e w1 ⟨rfl, rfl⟩
  go_wp2_with fail
  go_ret2
  exact ⟨rfl, rfl⟩


theorem strElem9 : Elem Try.prog 36 9 (.string ByteArray.empty) 1 16 := ⟨by kernel_rfl, by kernel_rfl, rfl, by decide⟩

/-- spans that may be -/
def Fit (xs : List (Nat × Nat)) : Prop := ∀ p ∈ xs, p.1 + p.2 ≤ 1099511627776

/-- a row of one new cell -/
theorem sl_one (w : World) (x : Value) (t : TypeId) : Sl (w.alloc (.cells #[x] t)) 1 (.slice (some ⟨w.heap.size, 0, none⟩) 1 1) 1 [x] :=
  ⟨_, 1, rfl, Nat.le_refl _, rfl, fun _ => ⟨w.heap.size, 0, rfl, by simp, fun j y hy => by
    cases j with
    | zero => simp at hy; subst hy; exact cell_new _ _ _ 0
    | succ j => simp at hy⟩⟩

set_option maxHeartbeats 1000000 in
theorem ref09_Pieces (s : List UInt8) (xs : List (Nat × Nat)) (lv : Value) (w : World) (hl : s.length ≤ 1048576) (hn : xs.length ≤ 1000000) (hx : Fit xs) (hr : Row w lv (xs.map spanV)) :
    Calls Try.prog 26 #[.string ⟨s.toArray⟩, lv] w (RetTexts w (piecesD s xs)) := by
  obtain ⟨A, c, rfl⟩ := hr.shape
  rw [List.length_map] at hr ⊢
  obtain ⟨n, hN⟩ : ∃ n, n = xs.length := ⟨_, rfl⟩
  rw [← hN] at hr hn ⊢
  have HN := Lib.hid hN
  have HX := Lib.hid hx
  have HR := Lib.hid hr
  clear hN hx hr
  go_enter Try.func26, Try.ntmps26
  go_wp2_with fail
  go_loopw [5, 6] (fun so si wr => ∃ k : Nat, si = .int .i64 k ∧ k ≤ n ∧ wr.ownsRow w.heap.size 9 1 so k ((piecesD s (xs.take k)).map strV) ∧ Below w.heap.size w wr) (fun _ si _ => n - (intOf si).toNat)
  case atStart => exact ⟨0, rfl, Nat.zero_le _, by simpa [piecesD] using World.ownsRow_nil w w.heap.size 9 1, Below.refl _ _⟩
  case round =>
    obtain ⟨k, rfl, hk, hown, hb⟩ := hrel
    have HOWN := Lib.hid hown
    clear hown
    by_cases hlt : k < n
    · have hkx : k < xs.length := by have := HN.out; omega
      obtain ⟨p, hp⟩ : ∃ p, p = xs[k] := ⟨_, rfl⟩
      have hsm := HX.out p (by rw [hp]; exact List.getElem_mem _)
      have hget : (xs.map spanV)[k]? = some (spanV p) := by rw [List.getElem?_map, List.getElem?_eq_getElem hkx, hp]; rfl
      obtain ⟨b, off, rfl, hbk, hlen, hcl⟩ := (HR.out.below hb).at k hget
      have hcell : wr.cell? ⟨b, off + k, none⟩ = some (.complex .f64 (fl p.1) (fl p.2)) := hcl k _ hget
      have hnew : (piecesD s (xs.take k)).map strV ++ [strV (readD s p.1 p.2).1] = (piecesD s (xs.take (k + 1))).map strV := by
        rw [List.take_succ_eq_append_getElem hkx, ← hp]
        simp [piecesD]
      have HNEW := Lib.hid hnew
      clear hnew hcl hget hp
      go_wp2_with fail
      refine (ref_Parts p.1 p.2 hsm _).mono ?_
      rintro e w1 ⟨rfl, rfl⟩
      go_wp2_with fail
      refine (ref09_Read s p.1 p.2 _ hl (by omega) (by omega) (by omega) (by omega)).mono ?_
      rintro e w1 ⟨rfl, hb1⟩
      have hb1' := below_trans hb hb1 hb.size
      have hown1 := owns_below HOWN.out hb1
      obtain ⟨v', w', hrun, ho, hgr, _⟩ := append_sl strElem9 (w1.alloc (.cells #[strV (readD s p.1 p.2).1] 9)) w.heap.size 36 u5 k _ (hown1.alloc _) _ 1 [strV (readD s p.1 p.2).1] (sl_one _ _ _) (fun u hu => by simp at hu; subst hu; rfl) (by unfold maxLen; omega) (by omega) (by have := hb1'.size; simp; omega)
      rw [HNEW.out] at ho
      have HO := Lib.hid ho
      have HB' := Lib.hid ((hb1'.alloc hb1'.size (.cells #[strV (readD s p.1 p.2).1] 9)).grown hgr (by have := hb1'.size; simp; omega) (fun q hq => (own_block_ge hown1 q hq).1))
      clear ho hgr hown1 hb1 hcell
      unfold strV at hrun
      go_wp2_with (at_builtin; refine wpList_append_run rfl _ _ _ rfl _ _ _ _ rfl rfl hrun ?_)
      go_roundw
      case rel => exact ⟨k + 1, by go_num, by omega, HO.out, HB'.out⟩
      case measure => simp [intOf]; omega
    · go_wp2_with fail
      go_ret
      have hk' : k = n := by omega
      subst hk'
      refine ⟨_, rfl, ?_, hb⟩
      have h := HOWN.out
      rw [List.take_of_length_le (by have := HN.out; omega)] at h
      rw [show (piecesD s xs).length = k from by simp [piecesD, HN.out]]
      exact h

theorem writeD_len9 (l : List UInt8) (a : Int) (t : List UInt8) (hl : l.length ≤ 524288) : (writeD l a t).1.length ≤ 524288 := by
  unfold writeD
  split
  · rename_i h
    have := refusedD_zero h
    show (if t = [] then l else putD l a.toNat t).length ≤ _
    split
    · exact hl
    · rw [putD_length]; omega
  · exact hl

set_option maxHeartbeats 1000000 in
theorem ref09_Patch (s : List UInt8) (xs : List (Nat × Nat)) (ts : List (List UInt8)) (lv pv : Value) (w : World) (hl : s.length ≤ 524288) (hn : xs.length ≤ 8796093022208) (_hm : ts.length ≤ 9223372036854775807) (hx : Fit xs) (ht : ∀ t ∈ ts, t.length ≤ 524288)
    (hr : Row w lv (xs.map spanV)) (hp : Row w pv (ts.map strV)) :
    Calls Try.prog 20 #[.string ⟨s.toArray⟩, lv, pv] w fun e w' => e = .returned (.tuple #[.string ⟨(patchD s xs ts).1.toArray⟩, .int .i64 (patchD s xs ts).2]) ∧ Below w.heap.size w w' := by
  obtain ⟨A, c, rfl⟩ := hr.shape
  obtain ⟨A', c', rfl⟩ := hp.shape
  rw [List.length_map] at hr hp ⊢
  rw [List.length_map]
  by_cases hle : xs.length = ts.length
  · have hpd : patchD s xs ts = patchGo s s xs ts := if_pos hle
    rw [hpd]
    obtain ⟨n, hN⟩ : ∃ n, n = xs.length := ⟨_, rfl⟩
    rw [← hle, ← hN] at hp ⊢
    rw [← hN] at hr hn
    have HN := Lib.hid hN
    have HM := Lib.hid (hN.trans hle)
    have HX := Lib.hid hx
    have HT := Lib.hid ht
    have HR := Lib.hid hr
    have HP := Lib.hid hp
    obtain ⟨D, hD⟩ : ∃ D, D = patchGo s s xs ts := ⟨_, rfl⟩
    rw [← hD]
    have HD := Lib.hid hD
    clear hN hx hr hp hD hpd hle ht
    go_enter Try.func20, Try.ntmps20
    go_wp2_with fail
    go_loopw [8, 9] (fun so si wr => ∃ (k : Nat) (out : List UInt8), si = .int .i64 k ∧ so = .string ⟨out.toArray⟩ ∧ k ≤ n ∧ out.length ≤ 524288 ∧ D = patchGo s out (xs.drop k) (ts.drop k) ∧ Below w.heap.size w wr) (fun _ si _ => n - (intOf si).toNat)
    case atStart => exact ⟨0, s, rfl, rfl, Nat.zero_le _, hl, HD.out, Below.refl _ _⟩
    case round =>
      obtain ⟨k, out, rfl, rfl, hk, ho, hdk, hb⟩ := hrel
      have HDK := Lib.hid hdk
      clear hdk
      by_cases hlt : k < n
      · have hkx : k < xs.length := by have := HN.out; omega
        have hkt : k < ts.length := by have := HM.out; omega
        obtain ⟨p, hp⟩ : ∃ p, p = xs[k] := ⟨_, rfl⟩
        obtain ⟨t, ht⟩ : ∃ t, t = ts[k] := ⟨_, rfl⟩
        have hsm := HX.out p (by rw [hp]; exact List.getElem_mem _)
        have htl := HT.out t (by rw [ht]; exact List.getElem_mem _)
        have hget : (xs.map spanV)[k]? = some (spanV p) := by rw [List.getElem?_map, List.getElem?_eq_getElem hkx, hp]; rfl
        have hget' : (ts.map strV)[k]? = some (strV t) := by rw [List.getElem?_map, List.getElem?_eq_getElem hkt, ht]; rfl
        obtain ⟨b, off, rfl, hbk, hlen, hcl⟩ := (HR.out.below hb).at k hget
        obtain ⟨b', off', rfl, hbk', hlen', hcl'⟩ := (HP.out).at k hget'
        have hcell : wr.cell? ⟨b, off + k, none⟩ = some (.complex .f64 (fl p.1) (fl p.2)) := hcl k _ hget
        have hcell' : wr.cell? ⟨b', off' + k, none⟩ = some (.string ⟨t.toArray⟩) := (hb.cell (p := ⟨b', off' + k, none⟩) hbk').trans (hcl' k _ hget')
        have hstep : patchGo s out (xs.drop k) (ts.drop k) = if (writeD out p.1 t).2 = 0 then patchGo s (writeD out p.1 t).1 (xs.drop (k + 1)) (ts.drop (k + 1)) else (s, (writeD out p.1 t).2) := by
          rw [List.drop_eq_getElem_cons hkx, List.drop_eq_getElem_cons hkt, ← hp, ← ht]
          rfl
        have hwl := writeD_len9 out p.1 t ho
        have HST := Lib.hid hstep
        clear hstep hcl hcl' hget hget' hp ht
        go_wp2_with fail
        refine (ref_Parts p.1 p.2 hsm _).mono ?_
        rintro e w1 ⟨rfl, rfl⟩
        go_wp2_with fail
        refine (ref09_Write out p.1 t _ ho htl (by omega) (by omega)).mono ?_
        rintro e w1 ⟨rfl, hb1⟩
        have hb1 := hb.trans (hb1.mono hb.size)
        obtain ⟨z, hz⟩ : ∃ z, z = (writeD out p.1 t).2 := ⟨_, rfl⟩
        rw [← hz]
        by_cases hz0 : z = 0
        · have hd : D = patchGo s (writeD out p.1 t).1 (xs.drop (k + 1)) (ts.drop (k + 1)) := by rw [HDK.out, HST.out, if_pos (by rw [← hz]; exact hz0)]
          have HD2 := Lib.hid hd
          clear hd hz
          subst hz0
          go_wp2_with fail
          go_roundw
          case rel => exact ⟨k + 1, _, by go_num, rfl, by omega, hwl, HD2.out, hb1⟩
          case measure => simp [intOf]; omega
        · have hd : D = (s, z) := by rw [HDK.out, HST.out, if_neg (by rw [← hz]; exact hz0), ← hz]
          have HD2 := Lib.hid hd
          have hq : (z != 0) = true := by simpa using hz0
          clear hd hz hz0
          go_wp2_with fail
          go_ret2
          exact ⟨by rw [HD2.out]; rfl, hb1⟩
      · have hd : D = (out, 0) := by
          rw [HDK.out, List.drop_eq_nil_of_le (by have := HN.out; omega)]
          rfl
        have HD2 := Lib.hid hd
        clear hd
        go_wp2_with fail
        go_ret2
        exact ⟨by rw [HD2.out]; rfl, hb⟩
  · have hpd : patchD s xs ts = (s, 1) := if_neg hle
    rw [hpd]
    have hq : ((xs.length : Int) != (ts.length : Int)) = true := by rw [bne_iff_ne]; omega
    clear hpd hx ht hr hp
    go_enter Try.func20, Try.ntmps20
    go_wp2_with fail
    go_ret2
    exact ⟨rfl, Below.refl _ _⟩

end Go.Proofs.Ytgmpgmhbfkdalaa
