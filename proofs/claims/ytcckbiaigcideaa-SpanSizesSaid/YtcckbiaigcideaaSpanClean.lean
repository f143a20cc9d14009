/- Proved: copyholdlaw03.SpanClean returns true for every pairs and place, and leaves them as they were: a clean row has just the places of the row, cleaned again it is the same; its spans stand apart, in order; turned round the row comes to the same. No condition beyond the form's own reach. -/
import Derived.Test.YtcckbiaigcideaaSpanRow
import Derived.Test.YtcckbiaigcideaaLaw
namespace Go.Proofs.Ytcckbiaigcideaa.spanClean
open Go.ChangeShapes Go.WideShapes Go.ChangeAt Go.RowKit Copyhold
open Go.ChangeMaps (open_string shut_string)
set_option linter.unusedVariables false

theorem open_pairs_of {H : Type} {enc : TypeId × Value → H} {W : World} {fuel : Nat} {cs : List Value} {x : DataW H × List MemPlace}
    (h : DataW.trod enc Try.prog W 0 (fun _ => true) true fuel 44 cs = some x) (hlt : ∀ p ∈ x.2, p.block < W.heap.size) (hw : ∀ n ∈ DataW.weights Try.prog 44 x.1, n ≤ 140737488351232) :
    ∃ (v : Value) (ps : List (Int × Int)), cs = [v] ∧ Sl W 2 v ps.length (ps.flatMap pairV) ∧ (∀ p ∈ ps, (Lit.int .i64 p.1).wf = true ∧ (Lit.int .i64 p.2).wf = true) ∧ ps.length ≤ 8796093022207 := by
  obtain ⟨u, a, ev, w1, x1, e1⟩ := open_pairs_at Try.underlying44 Try.underlying22 Try.underlying3 (by kernel_rfl) (by kernel_rfl) h hlt
  exact ⟨u, a, ev, w1, x1, pairs_sized Try.underlying44 (by kernel_rfl) e1 hw⟩

theorem cl_at {lo : Int} {ys : List (Nat × Nat)} (h : Cl lo ys) (k : Nat) (hk : k < ys.length) : endOf lo (ys.take k) < (ys[k].1 : Int) ∧ 1 ≤ ys[k].2 ∧ endOf lo (ys.take (k + 1)) = (ys[k].1 : Int) + ys[k].2 := by
  have hs : ys = ys.take k ++ [ys[k]] ++ ys.drop (k + 1) := by
    rw [← List.take_succ_eq_append_getElem hk, List.take_append_drop]
  have hp : ∀ (a b : List (Nat × Nat)) (lo : Int), Cl lo (a ++ b) → Cl lo a := by
    intro a
    induction a with
    | nil => intro b lo _; trivial
    | cons p a ih => intro b lo h; exact ⟨h.1, h.2.1, ih b _ h.2.2⟩
  have h1 : Cl lo (ys.take k ++ [ys[k]]) := hp _ (ys.drop (k + 1)) lo (by rw [← hs]; exact h)
  obtain ⟨_, a, b⟩ := (cl_snoc _ _ _).1 h1
  refine ⟨a, b, ?_⟩
  rw [List.take_succ_eq_append_getElem hk, endOf_snoc]

/-- where two lists of spans stand, and all that was -/
def Hold3 (w : World) (A B : Option Addr) (c d : Nat) (xs ys : List (Nat × Nat)) (W : World) : Prop := Sps W A c xs ∧ Sps W B d ys ∧ Below w.heap.size w W
theorem Hold3.below {w W W' : World} {A B : Option Addr} {c d : Nat} {xs ys : List (Nat × Nat)} (h : Hold3 w A B c d xs ys W) (hb : Below W.heap.size W W') : Hold3 w A B c d xs ys W' := ⟨h.1.below hb, h.2.1.below hb, below_trans h.2.2 hb h.2.2.size⟩

set_option maxRecDepth 100000 in
set_option maxHeartbeats 1500000 in
theorem walk (w : World) (lv : Value) (ps : List (Int × Int)) (hsl : Sl w 2 lv ps.length (ps.flatMap pairV)) (hwf : ∀ p ∈ ps, (Lit.int .i64 p.1).wf = true ∧ (Lit.int .i64 p.2).wf = true) (hz : ps.length ≤ 8796093022207) (t : Int) (ht : (Lit.int .i64 t).wf = true) :
    Calls Try.prog 5 #[lv, .int .i64 t] w fun e w' => e = .returned (.bool true) ∧ Below w.heap.size w w' := by
  obtain ⟨A, c, rfl, -, -⟩ := hsl.shape
  have HSL := Lib.hid hsl
  have HWF := Lib.hid hwf
  clear hsl hwf ht
  by_cases hbig : 40 < ps.length
  · go_enter Try.func5, Try.ntmps5
    go_wp2_with fail
    refine (law_shown _).mono ?_
    rintro e w1 ⟨rfl, rfl⟩
    go_wp2_with fail
    go_ret
    exact ⟨rfl, Below.refl _ _⟩
  · have hsm : ps.length ≤ 40 := by omega
    go_enter Try.func5, Try.ntmps5
    go_wp2_with fail
    refine (law_shown _).mono ?_
    rintro e w1 ⟨rfl, rfl⟩
    go_wp2_with fail
    refine (law_row ps A c _ (by omega) HSL.out HWF.out).mono ?_
    rintro e w1 ⟨A1, c1, rfl, ho1, hb1⟩
    have hks := givens_le ps
    have hkl := givens_len ps
    obtain ⟨ks, hk⟩ : ∃ ks, ks = givens ps := ⟨_, rfl⟩
    rw [← hk] at ho1 hks hkl ⊢
    replace hkl : ks.length ≤ 40 := by omega
    have HK1 := Lib.hid (Sps.of_owns ho1)
    have HKS := Lib.hid hks
    have HB1 := Lib.hid hb1
    clear ho1 hks hb1 hk HSL HWF
    go_wp2_with fail
    refine (span_Clean ks HKS.out (by omega) A1 c1 _ HK1.out).mono ?_
    rintro e w2 ⟨ys, A2, c2, hcl, rfl, hy2, -, hb2⟩
    have hyl : ys.length ≤ 40 := by have := hcl.2.2.2; omega
    have H2 := Lib.hid (show Hold3 w A1 A2 c1 c2 ks ys w2 from ⟨HK1.out.below hb2, hy2, below_trans HB1.out hb2 HB1.out.size⟩)
    have HC := Lib.hid hcl
    clear hcl hy2 hb2 HK1 HB1
    go_wp2_with fail
    go_loopw [8, 9] (fun so si wr => ∃ k : Nat, si = .int .i64 k ∧ so = .int .i64 (endOf (-1) (ys.take k)) ∧ k ≤ ys.length ∧ Hold3 w A1 A2 c1 c2 ks ys wr) (fun _ si _ => ys.length - (intOf si).toNat)
    case atStart => exact ⟨0, rfl, rfl, Nat.zero_le _, H2.out⟩
    case round =>
      obtain ⟨k, rfl, rfl, hk, hh⟩ := hrel
      have HH := Lib.hid hh
      clear hh
      by_cases hlt : k < ys.length
      · obtain ⟨e1, e2, e3⟩ := cl_at HC.out.1 k hlt
        have hpt := HC.out.2.2.1 ys[k] (List.getElem_mem hlt)
        have hget : (ys.map spV)[k]? = some (spV ys[k]) := by rw [List.getElem?_map, List.getElem?_eq_getElem hlt]; rfl
        obtain ⟨b, off, rfl, hbk, hlen, hcl⟩ := HH.out.2.1.2.row.at k hget
        have hcell : wr.cell? ⟨b, off + k, none⟩ = some (.complex .f64 (fl ys[k].1) (fl ys[k].2)) := hcl k _ hget
        have HE := Lib.hid e3
        generalize endOf (-1) (ys.take k) = was at *
        generalize ys[k] = p at *
        have hn1 : ¬ ((p.2 : Int) < 1) := by omega
        have hn2 : ¬ ((p.1 : Int) ≤ was) := by omega
        clear hget hcl e3 e1 e2 hlen
        go_wp2_with fail
        refine (span_Parts p.1 p.2 _ (by omega) (by omega)).mono ?_
        rintro e w3 ⟨rfl, rfl⟩
        go_wp2_with fail
        go_roundw
        case rel => exact ⟨k + 1, by go_num, by rw [HE.out], by omega, HH.out⟩
        case measure => simp [intOf]; omega
      · obtain rfl : k = ys.length := by omega
        clear hk hlt
        generalize endOf (-1) (ys.take ys.length) = was0
        generalize wr = W2 at *
        have hW2 : w.heap.size ≤ W2.heap.size := HH.out.2.2.size
        go_wp2_with fail
        go_loopw [12, 13] (fun so si wr => ∃ (j : Nat) (z : Int) (A3 : Option Addr) (c3 : Nat), si = .int .i64 z ∧ z = (ks.length : Int) - 1 - j ∧ j ≤ ks.length ∧ so = .slice A3 j c3 ∧ wr.ownsRow W2.heap.size 24 1 (.slice A3 j c3) j ((ks.reverse.take j).map spV) ∧ Below W2.heap.size W2 wr) (fun _ si _ => (intOf si + 1).toNat)
        case atStart => exact ⟨0, _, none, 0, rfl, by omega, Nat.zero_le _, rfl, by simpa using World.ownsRow_nil W2 W2.heap.size 24 1, Below.refl _ _⟩
        case round =>
          obtain ⟨j, z, A3, c3, rfl, hzj, hj, rfl, hown, hb⟩ := hrel
          have HH3 := Lib.hid (HH.out.below hb)
          by_cases hlt : j < ks.length
          · obtain ⟨i, hi⟩ : ∃ i, i + j + 1 = ks.length := ⟨ks.length - 1 - j, by omega⟩
            obtain rfl : z = (i : Int) := by omega
            have hil : i < ks.length := by omega
            have hget : (ks.map spV)[i]? = some (spV ks[i]) := by rw [List.getElem?_map, List.getElem?_eq_getElem hil]; rfl
            obtain ⟨b, off, rfl, hbk, hlen, hcl⟩ := HH3.out.1.2.row.at i hget
            have hcell : wr.cell? ⟨b, off + i, none⟩ = some (.complex .f64 (fl ks[i].1) (fl ks[i].2)) := hcl i _ hget
            have hstep : ks.reverse.take (j + 1) = ks.reverse.take j ++ [ks[i]] := by
              rw [List.take_succ_eq_append_getElem (by simpa using hlt), List.getElem_reverse]
              congr 3
              omega
            have HSTEP := Lib.hid hstep
            generalize ks[i] = q at *
            obtain ⟨A', c', w', hrun, ho, hbw⟩ := push_own q hown hb (by omega)
            have HO := Lib.hid ho
            have HB' := Lib.hid hbw
            have hi0 : (0 : Int) ≤ (i : Int) := by omega
            have HI := Lib.hid hi
            clear hget hcl hlen hstep hown ho hbw hi hzj hlt
            go_wp2_with (at_builtin; refine wpList_append_run rfl _ _ _ rfl _ _ _ _ rfl rfl hrun ?_)
            go_roundw
            case rel => exact ⟨j + 1, (i : Int) - 1, A', c', by go_num, by have := HI.out; omega, by have := HI.out; omega, rfl, by rw [HSTEP.out]; exact HO.out, HB'.out⟩
            case measure => simp [intOf] <;> omega
          · obtain rfl : j = ks.length := by omega
            obtain rfl : z = -1 := by omega
            rw [List.take_of_length_le (by simp)] at hown
            obtain ⟨kr, hkr⟩ : ∃ kr, kr = ks.reverse := ⟨_, rfl⟩
            have hkrl : kr.length = ks.length := by rw [hkr]; simp
            rw [← hkr] at hown
            have HR3 := Lib.hid (show Sps wr A3 c3 kr from Sps.of_owns (by rw [hkrl]; exact hown))
            have HKL := Lib.hid hkrl
            have HRS : Hid (∀ p ∈ kr, p.1 + p.2 ≤ 1099511627776) := Lib.hid (fun p hp => HKS.out p (by rw [hkr] at hp; exact List.mem_reverse.1 hp))
            have HRP : Hid (∀ u, hasD kr u = hasD ks u) := Lib.hid (fun u => has_perm (by rw [hkr]; exact List.reverse_perm ks) u)
            have hkr40 : kr.length ≤ 40 := by omega
            clear hown hb hkr hkrl hzj hj hlt
            go_wp2_with fail
            refine (span_Has ys A2 c2 t _ HH3.out.2.1.2.row (by omega) HC.out.2.2.1).mono ?_
            rintro e w5 ⟨rfl, hb5⟩
            rw [HC.out.2.1 t]
            have H5 := Lib.hid (HH3.out.below hb5)
            have HR5 := Lib.hid (HR3.out.below hb5)
            clear hb5
            go_wp2_with fail
            refine (span_Has ks A1 c1 t _ H5.out.1.2.row (by omega) HKS.out).mono ?_
            rintro e w6 ⟨rfl, hb6⟩
            have H6 := Lib.hid (H5.out.below hb6)
            have HR6 := Lib.hid (HR5.out.below hb6)
            clear hb6
            generalize hasD ks t = hv
            go_wp2_with fail
            refine (span_Clean ys HC.out.2.2.1 (by omega) A2 c2 _ H6.out.2.1).mono ?_
            rintro e w7 ⟨zs, A7, c7, hcl7, rfl, hz7, -, hb7⟩
            have hze : zs = ys := (CleanOf.unique hcl7 HC.out fun u => HC.out.2.1 u)
            subst hze
            have H7 := Lib.hid (H6.out.below hb7)
            have HR7 := Lib.hid (HR6.out.below hb7)
            have HZ7 := Lib.hid hz7
            clear hb7 hcl7 hz7
            go_wp2_with fail
            refine (ref_Same zs HC.out.2.2.1 (by omega) A7 A2 c7 c2 _ HZ7.out H7.out.2.1).mono ?_
            rintro e w8 ⟨rfl, hb8⟩
            have H8 := Lib.hid (H7.out.below hb8)
            have HR8 := Lib.hid (HR7.out.below hb8)
            clear hb8
            go_wp2_with fail
            have hcl9 := span_Clean kr HRS.out (by omega) A3 c3 _ HR8.out
            rw [HKL.out] at hcl9
            refine hcl9.mono ?_
            clear hcl9
            rintro e w9 ⟨us, A9, c9, hcl9, rfl, hz9, -, hb9⟩
            have hue : us = zs := (CleanOf.unique hcl9 HC.out fun u => HRP.out u)
            subst hue
            have H9 := Lib.hid (H8.out.below hb9)
            have HZ9 := Lib.hid hz9
            clear hb9 hcl9 hz9
            go_wp2_with fail
            refine (ref_Same us HC.out.2.2.1 (by omega) A9 A2 c9 c2 _ HZ9.out H9.out.2.1).mono ?_
            rintro e w10 ⟨rfl, hb10⟩
            have H10 := Lib.hid (H9.out.below hb10)
            clear hb10
            go_wp2_with fail
            refine (span_Size us HC.out.2.2.1 (by omega) A2 c2 _ H10.out.2.1).mono ?_
            rintro e w11 ⟨rfl, hb11⟩
            rw [cnt_congr HC.out.2.1 _]
            have H11 := Lib.hid (H10.out.below hb11)
            clear hb11
            go_wp2_with fail
            refine (span_Size ks HKS.out (by omega) A1 c1 _ H11.out.1).mono ?_
            rintro e w12 ⟨rfl, hb12⟩
            have H12 := Lib.hid (H11.out.below hb12)
            clear hb12
            have hct := cnt_top (hasD ks) 1099511627776
            generalize cnt (hasD ks) 1099511627776 = cc at *
            go_wp2_with fail
            go_ret
            exact ⟨rfl, H12.out.2.2⟩
theorem own : ownKnob Try.prog.godebug = none := by kernel_rfl
theorem laidOut : laidOutB Try.prog = true := by kernel_rfl

set_option maxRecDepth 100000 in
set_option maxHeartbeats 1000000 in
theorem lifted (os : Os) (started : os.Started) (H : Type) (enc : TypeId × Value → H) :
    ReturnsInHanded {} Try.checked os 5 .any (Rows.spanCleanSpec.pre6 enc Try.prog Try.f5 Rows.spanCleanRow.domain false) (Rows.spanCleanSpec.post enc Try.prog Try.f5 false true false false) := by
  refine returnsInHanded_of_change_sized (C := Try.checked) own started (by kernel_rfl) Try.func5
    (ChangeSpec.witness6 (enc := enc) (C := Try.checked) false ⟨#[], #[.slice none 0 0, .int .i64 0], []⟩ 8 (by kernel_rfl) (by kernel_rfl) (by kernel_rfl) (by kernel_rfl)) ?_
  intro W base args ds gs before hval0 hW hcnd hsz0 _
  have hsz : (DataW.weightsEach Try.prog (Try.f5.params.toList ++ []) (ds ++ gs)).all (· ≤ reachBytes) = true := hsz0
  clear hsz0
  have hval : ∀ (j : Nat) t v, Try.f5.params[j]? = some t → args[j]? = some v → Value.okWide Try.prog W .any base t v := hval0
  have hW' := hW
  have hlt := hW.lt
  obtain ⟨p, q, hA0, hV, rfl, hfz, hnd⟩ := hW
  have hA : DataW.TrodAll enc Try.prog W 0 (fun _ => true) true Try.f5.params.toList args.toList ds p := hA0
  rw [Try.params5] at hA hval
  obtain ⟨v0, vs0, d0, ds0, p0, q0, hargs, rfl, rfl, h0, r0⟩ := trodAll_cons hA
  obtain ⟨v1, vs1, d1, ds1, p1, q1, rfl, rfl, rfl, h1, r1⟩ := trodAll_cons r0
  obtain ⟨rfl, rfl, rfl⟩ := trodAll_nil r1
  obtain rfl : args = #[v0, v1] := by cases args; simp_all
  obtain ⟨rfl, rfl⟩ := trodVars_none hV
  have hw0 : ∀ n ∈ DataW.weights Try.prog 44 d0, n ≤ 140737488351232 := fun n hn => sized_deep hsz (by rw [Try.params5]; simp [DataW.weightsEach, hn])
  obtain ⟨A0, len0, cap0, rfl⟩ := okWide_slice Try.underlying44 (hval 0 44 v0 rfl rfl)
  obtain ⟨fuel0, hf0⟩ := h0
  obtain ⟨u0, a0, ev0, f0_0, f0_1, f0_2⟩ := open_pairs_of hf0 (fun x hx => hlt x (by simp [hx])) hw0
  obtain rfl : Value.slice A0 len0 cap0 = u0 := by have h : [Value.slice A0 len0 cap0] = [u0] := ev0; simpa using h
  obtain ⟨a1, rfl, rfl, rfl, w1⟩ := open_int Try.underlying3 (hval 1 3 v1 rfl rfl) h1
  refine (walk W _ a0 f0_0 f0_1 f0_2 a1 w1).mono fun e W' ⟨he, hg⟩ => ?_
  subst he
  exact ⟨_, rfl, Copyhold.law_post laidOut (by kernel_rfl) (by kernel_rfl) Try.underlying4 rfl rfl rfl rfl hW' hg⟩

theorem over : Rows.spanCleanRow.holds Try.pinned (OpenSpec.ofChange Rows.spanCleanSpec) :=
  OpenClaim.holds_of_wide 5 Try.f5 rfl rfl rfl rfl rfl rfl rfl ⟨rfl, rfl, rfl, rfl, rfl⟩ rfl rfl rfl rfl rfl (by kernel_rfl) Try.func5 (by kernel_rfl)
    (of_decide_eq_true (by kernel_rfl)) (by unfold Func.isWrapper; first | (rw [if_pos (by decide +kernel)]; kernel_rfl) | (rw [if_neg (by decide +kernel)]; exact ⟨rfl, rfl⟩))
    (fun os started H enc _ => lifted os started H enc)

theorem proved : Rows.SpanCleanSaid :=
  over
end Go.Proofs.Ytcckbiaigcideaa.spanClean
