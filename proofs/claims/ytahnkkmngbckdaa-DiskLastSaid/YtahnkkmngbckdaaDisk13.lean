/- copyholdref04.New, Stretch, Same: the document's own answers; old memory is as it was. -/
import Derived.Test.YtahnkkmngbckdaaDisk12
import Derived.Test.YtahnkkmngbckdaaRefStr
import Derived.Laws.StructEq
set_option linter.unusedVariables false
set_option linter.unusedSimpArgs false
namespace Go.Proofs.Ytahnkkmngbckdaa
open Go.RowKit Copyhold Copyhold.Disk

set_option maxHeartbeats 4000000 in
theorem ref04_Stretch (d : DiskW) (v : Value) (at' many : Int) (w : World) (hv : DiskV w v d) (hok : OkD d) (hr : Right d) (ha : -9223372036854775808 ≤ at' ∧ at' ≤ 9223372036854775807) (hm : -9223372036854775808 ≤ many ∧ many ≤ 9223372036854775807) :
    Calls Try.prog 18 #[v, .int .i64 at', .int .i64 many] w fun e w' => e = .returned (.tuple #[.string ⟨(stretchD d at' many).1.toArray⟩, .int .i64 (stretchD d at' many).2]) ∧ Below w.heap.size w w' := by
  have hv0 := hv
  obtain ⟨A, c, B, eb, rfl, hk, hp⟩ := hv
  have h4096 := hr.1
  obtain ⟨hx1, hx2⟩ := h4096
  obtain ⟨ha1, ha2⟩ := ha
  obtain ⟨hm1, hm2⟩ := hm
  cases hoff : d.off with
  | true =>
    have hs : stretchD d at' many = ([], 19) := by unfold stretchD; rw [hoff]; rfl
    rw [hs]
    clear hs hv0 hk hp hok hr
    go_enter Try.func18, Try.ntmps18
    go_wp2_with fail
    refine bodyPost_ret (v := .tuple #[.string ⟨#[]⟩, .int .i64 19]) (by simp [results, Try.results18, go_sem]) rfl ⟨rfl, (Below.refl _ _).alloc (Nat.le_refl _) _⟩
  | false =>
    have hs0 : stretchD d at' many = if at' < 0 ∨ many < 0 ∨ (d.kept.length : Int) < at' ∨ (d.kept.length : Int) - at' < many then ([], 1) else ((((imageL d).drop at'.toNat).take many.toNat).flatten, 0) := by unfold stretchD; rw [hoff]; rfl
    rw [hoff] at hv0
    have bad : (at' < 0 ∨ many < 0 ∨ (d.kept.length : Int) < at' ∨ (d.kept.length : Int) - at' < many) → stretchD d at' many = ([], 1) := fun h => by rw [hs0, if_pos h]
    rcases (show at' < 0 ∨ 0 ≤ at' ∧ many < 0 ∨ 0 ≤ at' ∧ 0 ≤ many ∧ (d.kept.length : Int) < at' ∨ 0 ≤ at' ∧ 0 ≤ many ∧ at' ≤ (d.kept.length : Int) ∧ (d.kept.length : Int) - at' < many ∨ 0 ≤ at' ∧ 0 ≤ many ∧ at' ≤ (d.kept.length : Int) ∧ many ≤ (d.kept.length : Int) - at' from by omega) with q | ⟨q, q1⟩ | ⟨q, q1, q2⟩ | ⟨q, q1, q2, q3⟩ | ⟨q, q1, q2, q3⟩
    · rw [bad (.inl q)]
      clear hs0 hv0 hk hp hok hr bad
      go_enter Try.func18, Try.ntmps18
      go_wp2_with fail
      refine bodyPost_ret (v := .tuple #[.string ⟨#[]⟩, .int .i64 1]) (by simp [results, Try.results18, go_sem]) rfl ⟨rfl, (Below.refl _ _).alloc (Nat.le_refl _) _⟩
    · rw [bad (.inr (.inl q1))]
      clear hs0 hv0 hk hp hok hr bad
      go_enter Try.func18, Try.ntmps18
      go_wp2_with fail
      refine bodyPost_ret (v := .tuple #[.string ⟨#[]⟩, .int .i64 1]) (by simp [results, Try.results18, go_sem]) rfl ⟨rfl, (Below.refl _ _).alloc (Nat.le_refl _) _⟩
    · rw [bad (.inr (.inr (.inl q2)))]
      clear hs0 hv0 hk hp hok hr bad
      go_enter Try.func18, Try.ntmps18
      go_wp2_with fail
      refine bodyPost_ret (v := .tuple #[.string ⟨#[]⟩, .int .i64 1]) (by simp [results, Try.results18, go_sem]) rfl ⟨rfl, (Below.refl _ _).alloc (Nat.le_refl _) _⟩
    · rw [bad (.inr (.inr (.inr q3)))]
      clear hs0 hv0 hk hp hok hr bad
      go_enter Try.func18, Try.ntmps18
      go_wp2_with fail
      refine bodyPost_ret (v := .tuple #[.string ⟨#[]⟩, .int .i64 1]) (by simp [results, Try.results18, go_sem]) rfl ⟨rfl, (Below.refl _ _).alloc (Nat.le_refl _) _⟩
    · obtain ⟨i, rfl⟩ := Int.eq_ofNat_of_zero_le q
      obtain ⟨m, rfl⟩ := Int.eq_ofNat_of_zero_le q1
      have hs : stretchD d (i : Int) (m : Int) = ((((imageL d).drop i).take m).flatten, 0) := by rw [hs0, if_neg (by omega), Int.toNat_natCast, Int.toNat_natCast]
      rw [hs]
      have hb0 : Below w.heap.size w (w.alloc (.cells #[.slice A d.kept.length c, .slice B d.w.length eb, .bool false] 25)) := (Below.refl _ _).alloc (Nat.le_refl _) _
      have HI := Lib.hid (ref04_Image d _ _ (hv0.below hb0) hok hr)
      have hil := image_len d
      have h64 := image64 hr
      have him : i + m ≤ (imageL d).length := by omega
      have hi3 : i ≤ d.kept.length := by omega
      have hm3 : m ≤ d.kept.length - i := by omega
      have hj : (i : Int) + (m : Int) ≤ (d.kept.length : Int) := by omega
      generalize imageL d = im at *
      have hfl : ((im.drop i).take m).flatten.length ≤ 140737488355328 := by
        rw [flat64 _ (fun x hx => h64 x (List.mem_of_mem_drop (List.mem_of_mem_take hx)))]
        rw [List.length_take, List.length_drop]
        omega
      have HIL := Lib.hid hil
      have HFL := Lib.hid hfl
      have H64 := Lib.hid h64
      have HIM := Lib.hid him
      clear hs hs0 bad hv0 hk hp hb0 h64 hfl hil hr
      go_enter Try.func18, Try.ntmps18
      go_wp2_with fail
      refine HI.out.mono ?_
      rintro e w1 ⟨v, rfl, hr, hat, hb⟩
      obtain ⟨A', c', rfl⟩ := hr.shape
      rw [List.length_map] at hr hat ⊢
      have HR := Lib.hid hr
      have HB := Lib.hid hb
      clear hr hat hb
      go_wp2_with fail
      go_loop [9, 10] (fun z iv => ∃ j : Nat, j ≤ m ∧ iv = .int .i64 ((i + j : Nat) : Int) ∧ z = .string ⟨(((im.drop i).take j).flatten).toArray⟩) (fun _ iv => i + m - (intOf iv).toNat)
      case atStart => exact ⟨0, Nat.zero_le _, rfl, by simp⟩
      case round =>
        obtain ⟨j, hj2, rfl, rfl⟩ := hrel
        have him := HIM.out
        by_cases hlt : j < m
        · have hij : i + j < im.length := by omega
          have hst : ((im.drop i).take (j + 1)).flatten = ((im.drop i).take j).flatten ++ im[i + j] := by
            rw [List.take_succ_eq_append_getElem (by rw [List.length_drop]; omega), List.flatten_append, List.getElem_drop]
            simp
          have hzl : ((im.drop i).take j).flatten.length ≤ 1000000 := by
            rw [flat64 _ (fun x hx => H64.out x (List.mem_of_mem_drop (List.mem_of_mem_take hx)))]
            rw [List.length_take, List.length_drop]
            omega
          obtain ⟨b, off', rfl, hbk, _, hcs⟩ := HR.out.at (i + j) (x := strV im[i + j]) (by simp [hij])
          have hc : w1.cell? ⟨b, off' + (i + j), none⟩ = some (.string ⟨(im[i + j]).toArray⟩) := hcs (i + j) (strV im[i + j]) (by simp [hij])
          have hx := H64.out im[i + j] (List.getElem_mem hij)
          have hi1 : ((i + j : Nat) : Int) < (im.length : Int) := by omega
          have hi2 : ((i + j : Nat) : Int) < (i : Int) + (m : Int) := by omega
          have HST := Lib.hid hst
          clear hcs hst
          generalize ((im.drop i).take j).flatten = z at *
          generalize im[i + j] = x at *
          generalize hpq : i + j = pq at *
          have hq : ¬ 9223372036854775807 < z.length + x.length := by omega
          go_wp2_with fail
          go_round
          case rel => exact ⟨j + 1, by omega, by rw [← hpq]; go_num, by rw [HST.out]⟩
          case measure => simp [intOf]; omega
        · obtain rfl : j = m := by omega
          generalize hzz : ((im.drop i).take j).flatten = z at *
          have HZZ := Lib.hid hzz
          clear hzz
          go_wp2_with fail
          refine bodyPost_ret (v := .tuple #[.string ⟨z.toArray⟩, .int .i64 0]) (by simp [results, Try.results18, go_sem]) rfl ⟨by rw [HZZ.out], below_trans ((Below.refl _ _).alloc (Nat.le_refl _) _) HB.out (by simp)⟩

/-- a text more -/
theorem app_text {w3 : World} {base k : Nat} {sv : Value} {xs : List Value} (s : List UInt8) (ho : w3.ownsRow base 9 1 sv k xs) (hn : k ≤ 1000000) (hbase : base ≤ w3.heap.size) :
    ∃ v' w4, (Builtin.append_ #[22, 22] 22 #[sv, .slice (some ⟨w3.heap.size, 0, none⟩) 1 1]).run Try.prog (w3.alloc (.cells #[.string ⟨s.toArray⟩] 9)) = .ok v' w4 ∧ w4.ownsRow base 9 1 v' (k + 1) (xs ++ [strV s]) ∧
      (∀ b, b < base → w4.heap[b]? = w3.heap[b]?) ∧ w3.heap.size ≤ w4.heap.size ∧ (∀ (B : Nat) (a : World), Below B a w3 → B ≤ base → Below B a w4) := by
  have hsl : Sl (w3.alloc (.cells #[.string ⟨s.toArray⟩] 9)) 1 (.slice (some ⟨w3.heap.size, 0, none⟩) 1 1) 1 [strV s] :=
    ⟨_, 1, rfl, Nat.le_refl _, by simp, fun _ => ⟨w3.heap.size, 0, rfl, by simp, fun j y hj => by
      rw [Nat.zero_add, cell_new]
      simpa [strV] using hj⟩⟩
  obtain ⟨v', w4, hrun, h1, h2, _⟩ := append_sl strElem _ base 22 sv k _ (ho.alloc _) _ 1 _ hsl (fun u hu => by simp at hu; subst hu; rfl) (by unfold maxLen; omega) (by omega) (by simp; omega)
  refine ⟨v', w4, hrun, h1, fun b hb => ?_, ?_, fun B a hb hB => ?_⟩
  · rw [h2.block b (by simp; omega) (fun e => by have := (own_block_ge ho b e.symm).1; omega)]
    exact heap_alloc_old _ _ (by omega)
  · have := h2.size
    simp at this
    omega
  · exact (hb.alloc (Nat.le_trans hB hbase) _).grown h2 (by simp; omega) (fun g hg => Nat.le_trans hB (own_block_ge ho g hg).1)

set_option maxHeartbeats 4000000 in
theorem ref04_New (many : Int) (w : World) : Calls Try.prog 11 #[.int .i64 many] w (RetDisk w (newD many)) := by
  by_cases hin : 1 ≤ many ∧ many ≤ 4096
  · obtain ⟨n, rfl⟩ := Int.eq_ofNat_of_zero_le (show 0 ≤ many by omega)
    have hq : newD (n : Int) = (⟨List.replicate n (padL []), [], false⟩, 0) := by unfold newD; rw [if_pos hin, Int.toNat_natCast]
    rw [hq]
    obtain ⟨h1, h2⟩ := hin
    obtain ⟨W0, hW0⟩ : ∃ W, W = (w.alloc (.cells #[.slice none 0 0, .slice none 0 0, .bool false] 25)).alloc (.cells #[.slice none 0 0, .slice none 0 0, .bool false] 25) := ⟨_, rfl⟩
    have hb0 : Below w.heap.size w W0 := by rw [hW0]; exact ((Below.refl _ _).alloc (Nat.le_refl _) _).alloc (by simp) _
    have hs0 : W0.heap.size = w.heap.size + 2 := by rw [hW0]; simp
    have HR0 := Lib.hid (show TBox W0 w.heap.size 25 #[.slice none 0 0, .slice none 0 0, .bool false] from by rw [hW0]; exact (TBox.new _ _ _).alloc _)
    have HD0 := Lib.hid (show TBox W0 (w.heap.size + 1) 25 #[.slice none 0 0, .slice none 0 0, .bool false] from by
      rw [hW0]
      have := TBox.new (w.alloc (.cells #[.slice none 0 0, .slice none 0 0, .bool false] 25)) 25 #[.slice none 0 0, .slice none 0 0, .bool false]
      rw [World.size_alloc] at this
      exact this)
    have BW := Lib.hid hb0
    have HW := Lib.hid hW0
    have HS0 := Lib.hid hs0
    have HPAD := Lib.hid (fun W => ref04_filled [] W (by simp))
    have hp64 : (padL []).length = 64 := padL_len _ (by simp)
    generalize hpd : padL [] = pd at *
    clear hW0 hb0 hq hpd hs0
    go_enter Try.func11, Try.ntmps11
    go_wp2_with fail
    rw [← HW.out]
    refine (HPAD.out _).mono ?_
    rintro e w1 ⟨rfl, rfl⟩
    go_wp2_with fail
    go_loopw [6] (fun i wr => ∃ (k : Nat) (v : Value), k ≤ n ∧ i = .int .i64 k ∧ TBox wr (w.heap.size + 1) 25 #[v, .slice none 0 0, .bool false] ∧ TBox wr w.heap.size 25 #[.slice none 0 0, .slice none 0 0, .bool false] ∧
      wr.ownsRow (w.heap.size + 2) 9 1 v k ((List.replicate k pd).map strV) ∧ Below w.heap.size w wr) (fun i _ => n - (intOf i).toNat)
    case atStart => exact ⟨0, _, Nat.zero_le _, rfl, HD0.out, HR0.out, World.ownsRow_nil _ _ _ _, BW.out⟩
    case round =>
      obtain ⟨k, v, hk, rfl, htd, htr, hown, hbw⟩ := hrel
      by_cases hlt : k < n
      · have hsw : w.heap.size + 2 ≤ wr.heap.size := by have := htd.lt; omega
        obtain ⟨v', W4, hrun, hown4, hk4, hs4, hb4⟩ := app_text pd hown (by omega) hsw
        have hnew : (List.replicate k pd).map strV ++ [strV pd] = (List.replicate (k + 1) pd).map strV := by rw [List.replicate_succ']; simp
        rw [hnew] at hown4
        obtain ⟨g, cap, rfl⟩ := ownsRow_succ hown4
        obtain ⟨A, c, rfl, -, -⟩ := (Sl.of_owns hown).shape
        have d0 : wr.cell? ⟨w.heap.size + 1, 0, none⟩ = some (.slice A k c) := htd.cell 0
        have dl := htd.lt
        have td4 : TBox W4 (w.heap.size + 1) 25 #[.slice A k c, .slice none 0 0, .bool false] := (hk4 _ (by omega)).trans htd
        have tr4 : TBox W4 w.heap.size 25 #[.slice none 0 0, .slice none 0 0, .bool false] := (hk4 _ (by omega)).trans htr
        have e0 : W4.cell? ⟨w.heap.size + 1, 0, none⟩ = some (.slice A k c) := td4.cell 0
        have f0 := td4.free 0
        have hbw4 := hb4 _ _ hbw (by omega)
        have HT4 := Lib.hid (td4.set 0 (.slice (some ⟨g, 0, none⟩) (k + 1) cap))
        have HR4 := Lib.hid (tr4.far (w.heap.size + 1) 0 (.slice (some ⟨g, 0, none⟩) (k + 1) cap) (by omega))
        have HO4 := Lib.hid (owns_setCell hown4 ⟨w.heap.size + 1, 0, none⟩ (.slice (some ⟨g, 0, none⟩) (k + 1) cap) (by simp))
        have HB4 := Lib.hid (hbw4.setCell (p := ⟨w.heap.size + 1, 0, none⟩) (by simp) (.slice (some ⟨g, 0, none⟩) (k + 1) cap))
        clear htd htr hown hbw hown4 hk4 hs4 hb4 td4 tr4 hbw4 hnew
        go_wp2_with (at_builtin; refine wpList_append_run rfl _ _ _ rfl _ _ _ _ rfl rfl hrun ?_)
        go_roundw
        case rel => exact ⟨k + 1, _, by omega, by go_num, HT4.out, HR4.out, HO4.out, HB4.out⟩
        case measure => simp [intOf]; omega
      · obtain rfl : k = n := by omega
        obtain ⟨A, c, rfl, -, -⟩ := (Sl.of_owns hown).shape
        have d0 : wr.cell? ⟨w.heap.size + 1, 0, none⟩ = some (.slice A k c) := htd.cell 0
        have d1 : wr.cell? ⟨w.heap.size + 1, 1, none⟩ = some (.slice none 0 0) := htd.cell 1
        have d2 : wr.cell? ⟨w.heap.size + 1, 2, none⟩ = some (.bool false) := htd.cell 2
        have r0 : wr.cell? ⟨w.heap.size, 0, none⟩ = some (.slice none 0 0) := htr.cell 0
        have r1 : wr.cell? ⟨w.heap.size, 1, none⟩ = some (.slice none 0 0) := htr.cell 1
        have r2 : wr.cell? ⟨w.heap.size, 2, none⟩ = some (.bool false) := htr.cell 2
        have f0 := htr.free 0
        have f1 := htr.free 1
        have f2 := htr.free 2
        have hrr := Row.of_owns (owns_setCell (owns_setCell (owns_setCell hown ⟨w.heap.size, 0, none⟩ (.slice A k c) (by simp)) ⟨w.heap.size, 1, none⟩ (.slice none 0 0) (by simp)) ⟨w.heap.size, 2, none⟩ (.bool false) (by simp))
        have hbb := ((hbw.setCell (p := ⟨w.heap.size, 0, none⟩) (Nat.le_refl _) (.slice A k c)).setCell (p := ⟨w.heap.size, 1, none⟩) (Nat.le_refl _) (.slice none 0 0)).setCell (p := ⟨w.heap.size, 2, none⟩) (Nat.le_refl _) (.bool false)
        have HRR := Lib.hid hrr
        have HBB := Lib.hid hbb
        clear htd htr hown hbw hrr hbb
        go_wp2_with fail
        refine bodyPost_ret (v := .tuple #[.agg #[.slice A k c, .slice none 0 0, .bool false], .int .i64 0]) (by simp [results, Try.results11, go_sem, r0, r1, r2]) rfl ⟨_, rfl, ⟨A, c, none, 0, by simp, ?_, Puts.nil _⟩, HBB.out⟩
        simpa using HRR.out
  · have hq : newD many = (⟨[], [], false⟩, 1) := by unfold newD; rw [if_neg hin]
    rw [hq]
    clear hq
    by_cases h1 : many < 1
    · go_enter Try.func11, Try.ntmps11
      go_wp2_with fail
      refine bodyPost_ret (v := .tuple #[.agg #[.slice none 0 0, .slice none 0 0, .bool false], .int .i64 1]) (by simp [results, Try.results11, go_sem]) rfl ⟨_, rfl, DiskV.empty _, ?_⟩
      exact (Below.refl _ w).alloc (Nat.le_refl _) _
    · have h2 : 4096 < many := by omega
      go_enter Try.func11, Try.ntmps11
      go_wp2_with fail
      refine bodyPost_ret (v := .tuple #[.agg #[.slice none 0 0, .slice none 0 0, .bool false], .int .i64 1]) (by simp [results, Try.results11, go_sem]) rfl ⟨_, rfl, DiskV.empty _, ?_⟩
      exact (Below.refl _ w).alloc (Nat.le_refl _) _

set_option maxRecDepth 100000 in
set_option maxHeartbeats 8000000 in
/-- two disks that are the same -/
theorem ref04_Same (d : DiskW) (va vb : Value) (w : World) (ha : DiskV w va d) (hb : DiskV w vb d) (hok : OkD d) : Calls Try.prog 12 #[va, vb] w fun e w' => e = .returned (.bool true) ∧ Below w.heap.size w w' := by
  obtain ⟨A, c, B, eb, rfl, hk, hp⟩ := ha
  obtain ⟨A2, c2, B2, eb2, rfl, hk2, hp2⟩ := hb
  obtain ⟨W0, hW0⟩ : ∃ W, W = (w.alloc (.cells #[.slice A d.kept.length c, .slice B d.w.length eb, .bool d.off] 25)).alloc (.cells #[.slice A2 d.kept.length c2, .slice B2 d.w.length eb2, .bool d.off] 25) := ⟨_, rfl⟩
  have hb0 : Below w.heap.size w W0 := by rw [hW0]; exact ((Below.refl _ _).alloc (Nat.le_refl _) _).alloc (by simp) _
  have ta0 : TBox W0 w.heap.size 25 #[.slice A d.kept.length c, .slice B d.w.length eb, .bool d.off] := by rw [hW0]; exact (TBox.new _ _ _).alloc _
  have tb0 : TBox W0 (w.heap.size + 1) 25 #[.slice A2 d.kept.length c2, .slice B2 d.w.length eb2, .bool d.off] := by
    rw [hW0]
    have := TBox.new (w.alloc (.cells #[.slice A d.kept.length c, .slice B d.w.length eb, .bool d.off] 25)) 25 #[.slice A2 d.kept.length c2, .slice B2 d.w.length eb2, .bool d.off]
    rw [World.size_alloc] at this
    exact this
  have HSTR := Lib.hid (ref_Strings _ _ d.kept d.kept W0 (hk.below hb0) (hk2.below hb0) hok.1 hok.1)
  rw [show sameTexts d.kept d.kept = true from by unfold sameTexts; simp] at HSTR
  have HP := Lib.hid hp
  have HP2 := Lib.hid hp2
  have HTA := Lib.hid ta0
  have HTB := Lib.hid tb0
  have HB0 := Lib.hid hb0
  have HW := Lib.hid hW0
  have hm := hok.2.2.2
  have hpl := hok.2.2.1
  have hoo : ((!(d.off == d.off)) : Bool) = false := by simp
  clear hW0 hb0 ta0 tb0 hk hk2 hp hp2 hok
  obtain ⟨kept, ws, off⟩ := d
  simp only at *
  have a0 : W0.cell? ⟨w.heap.size, 0, none⟩ = some (.slice A kept.length c) := HTA.out.cell 0
  have b0 : W0.cell? ⟨w.heap.size + 1, 0, none⟩ = some (.slice A2 kept.length c2) := HTB.out.cell 0
  go_enter Try.func12, Try.ntmps12
  go_wp2_with fail
  rw [← HW.out]
  go_wp2_with fail
  refine HSTR.out.mono ?_
  rintro e w1 ⟨rfl, hb1⟩
  have ta1 := HTA.out.below hb1
  have tb1 := HTB.out.below hb1
  have a1 : w1.cell? ⟨w.heap.size, 1, none⟩ = some (.slice B ws.length eb) := ta1.cell 1
  have a2 : w1.cell? ⟨w.heap.size, 2, none⟩ = some (.bool off) := ta1.cell 2
  have b1 : w1.cell? ⟨w.heap.size + 1, 1, none⟩ = some (.slice B2 ws.length eb2) := tb1.cell 1
  have b2 : w1.cell? ⟨w.heap.size + 1, 2, none⟩ = some (.bool off) := tb1.cell 2
  have HBW1 := Lib.hid (below_trans HB0.out hb1 HB0.out.size)
  have HTA1 := Lib.hid ta1
  have HTB1 := Lib.hid tb1
  clear ta1 tb1 hb1 a0 b0
  go_wp2_with fail
  go_loopw [6] (fun i wr => ∃ k : Nat, k ≤ ws.length ∧ i = .int .i64 k ∧ Below w1.heap.size w1 wr) (fun i _ => ws.length - (intOf i).toNat)
  case atStart => exact ⟨0, Nat.zero_le _, rfl, Below.refl _ _⟩
  case round =>
    obtain ⟨k, hk, rfl, hbw⟩ := hrel
    have a1 : wr.cell? ⟨w.heap.size, 1, none⟩ = some (.slice B ws.length eb) := (HTA1.out.below hbw).cell 1
    have HBW := Lib.hid hbw
    have HAW := Lib.hid (HTA1.out.below hbw)
    have HBB := Lib.hid (HTB1.out.below hbw)
    clear hbw
    by_cases hlt : k < ws.length
    · obtain ⟨b, off', rfl, hbk, _, hc0, hc1⟩ := HP.out.at k hlt
      obtain ⟨bb, off2, rfl, hbk2, _, hd0, hd1⟩ := HP2.out.at k hlt
      have hki : (k : Int) < (ws.length : Int) := by omega
      have hx := hpl ws[k] (List.getElem_mem hlt)
      generalize ws[k] = x at *
      obtain ⟨i, s⟩ := x
      simp only at hc0 hc1 hd0 hd1
      have key : ∀ (X : World), Below wr.heap.size wr X → Below w.heap.size w X := fun X h => below_trans HBW1.out (below_trans HBW.out h HBW.out.size) HBW1.out.size
      have HC := Lib.hid (fun X (h : Below wr.heap.size wr X) => show X.cell? ⟨b, off' + k * 2, none⟩ = some (.int .i64 i) ∧ X.cell? ⟨b, off' + k * 2 + 1, none⟩ = some (.string ⟨s.toArray⟩) ∧ X.cell? ⟨bb, off2 + k * 2, none⟩ = some (.int .i64 i) ∧ X.cell? ⟨bb, off2 + k * 2 + 1, none⟩ = some (.string ⟨s.toArray⟩) from
        ⟨((key X h).cell (p := ⟨b, off' + k * 2, none⟩) hbk).trans hc0, ((key X h).cell (p := ⟨b, off' + k * 2 + 1, none⟩) hbk).trans hc1, ((key X h).cell (p := ⟨bb, off2 + k * 2, none⟩) hbk2).trans hd0, ((key X h).cell (p := ⟨bb, off2 + k * 2 + 1, none⟩) hbk2).trans hd1⟩)
      clear hc0 hc1 hd0 hd1 key
      go_wp2_with fail
      refine wp_region_held_drew (S := fun V => Below wr.heap.size wr V) (by kernel_rfl) (below_dn (Below.refl _ _) 1) (fun hHeld => ?_)
      refine wpAnyH_take (i := 0) (v := ?_) rfl (by kernel_rfl) (by kernel_rfl) (by kernel_rfl) (fun _ _ _ h => h) (Or.inl ⟨by rfl, ?_⟩) (by assumption) ?_
      rotate_left
      · intro X hSw
        go_simp
        try with_reducible rfl
      rotate_left
      try simp only [Act.put, List.setIfInBounds_toArray, List.set_cons_zero, List.set_cons_succ, List.getElem_toArray, List.getElem_cons_zero, List.getElem_cons_succ]
      refine wpAnyH_take (i := 1) (v := ?_) rfl (by kernel_rfl) (by kernel_rfl) (by kernel_rfl) (fun _ _ _ h => h) (Or.inl ⟨by rfl, ?_⟩) (by assumption) ?_
      rotate_left
      · intro X hSw
        have ha1 : X.cell? ⟨w.heap.size, 1, none⟩ = some (.slice (some ⟨b, off', none⟩) ws.length eb) := (HAW.out.below hSw).cell 1
        have hb1 : X.cell? ⟨w.heap.size + 1, 1, none⟩ = some (.slice (some ⟨bb, off2, none⟩) ws.length eb2) := (HBB.out.below hSw).cell 1
        obtain ⟨hp0, hp1, hp2, hp3⟩ := HC.out X hSw
        go_simp
        try with_reducible rfl
      rotate_left
      try simp only [Act.put, List.setIfInBounds_toArray, List.set_cons_zero, List.set_cons_succ, List.getElem_toArray, List.getElem_cons_zero, List.getElem_cons_succ]
      refine wpAnyH_take (i := 2) (v := ?_) rfl (by kernel_rfl) (by kernel_rfl) (by kernel_rfl) (fun _ _ _ h => h) (Or.inl ⟨by rfl, ?_⟩) (by assumption) ?_
      rotate_left
      · intro X hSw
        go_simp
        try with_reducible rfl
      rotate_left
      try simp only [Act.put, List.setIfInBounds_toArray, List.set_cons_zero, List.set_cons_succ, List.getElem_toArray, List.getElem_cons_zero, List.getElem_cons_succ]
      refine wpAnyH_take (i := 3) (v := ?_) rfl (by kernel_rfl) (by kernel_rfl) (by kernel_rfl) (fun _ _ _ h => h) (Or.inl ⟨by rfl, ?_⟩) (by assumption) ?_
      rotate_left
      · intro X hSw
        go_simp
        try with_reducible rfl
      rotate_left
      try simp only [Act.put, List.setIfInBounds_toArray, List.set_cons_zero, List.set_cons_succ, List.getElem_toArray, List.getElem_cons_zero, List.getElem_cons_succ]
      refine wpAnyH_take (i := 4) (v := ?_) rfl (by kernel_rfl) (by kernel_rfl) (by kernel_rfl) (fun _ _ _ h => h) (Or.inl ⟨by rfl, ?_⟩) (by assumption) ?_
      rotate_left
      · intro X hSw
        have ha1 : X.cell? ⟨w.heap.size, 1, none⟩ = some (.slice (some ⟨b, off', none⟩) ws.length eb) := (HAW.out.below hSw).cell 1
        have hb1 : X.cell? ⟨w.heap.size + 1, 1, none⟩ = some (.slice (some ⟨bb, off2, none⟩) ws.length eb2) := (HBB.out.below hSw).cell 1
        obtain ⟨hp0, hp1, hp2, hp3⟩ := HC.out X hSw
        go_simp
        try with_reducible rfl
      rotate_left
      try simp only [Act.put, List.setIfInBounds_toArray, List.set_cons_zero, List.set_cons_succ, List.getElem_toArray, List.getElem_cons_zero, List.getElem_cons_succ]
      refine wpAnyH_take (i := 5) (v := ?_) rfl (by kernel_rfl) (by kernel_rfl) (by kernel_rfl) (fun _ _ _ h => h) (Or.inl ⟨by rfl, ?_⟩) (by assumption) ?_
      rotate_left
      · intro X hSw
        go_simp
        try with_reducible rfl
      rotate_left
      try simp only [Act.put, List.setIfInBounds_toArray, List.set_cons_zero, List.set_cons_succ, List.getElem_toArray, List.getElem_cons_zero, List.getElem_cons_succ]
      refine wpAnyH_take (i := 6) (v := ?_) rfl (by kernel_rfl) (by kernel_rfl) (by kernel_rfl) (fun _ _ _ h => h) (Or.inl ⟨by rfl, ?_⟩) (by assumption) ?_
      rotate_left
      · intro X hSw
        have ha1 : X.cell? ⟨w.heap.size, 1, none⟩ = some (.slice (some ⟨b, off', none⟩) ws.length eb) := (HAW.out.below hSw).cell 1
        have hb1 : X.cell? ⟨w.heap.size + 1, 1, none⟩ = some (.slice (some ⟨bb, off2, none⟩) ws.length eb2) := (HBB.out.below hSw).cell 1
        obtain ⟨hp0, hp1, hp2, hp3⟩ := HC.out X hSw
        go_simp
        try with_reducible rfl
      rotate_left
      try simp only [Act.put, List.setIfInBounds_toArray, List.set_cons_zero, List.set_cons_succ, List.getElem_toArray, List.getElem_cons_zero, List.getElem_cons_succ]
      refine wpAnyH_take (i := 7) (v := ?_) rfl (by kernel_rfl) (by kernel_rfl) (by kernel_rfl) (fun _ _ _ h => h) (Or.inl ⟨by rfl, ?_⟩) (by assumption) ?_
      rotate_left
      · intro X hSw
        go_simp
        try with_reducible rfl
      rotate_left
      try simp only [Act.put, List.setIfInBounds_toArray, List.set_cons_zero, List.set_cons_succ, List.getElem_toArray, List.getElem_cons_zero, List.getElem_cons_succ]
      refine wpAnyH_take (i := 8) (v := ?_) rfl (by kernel_rfl) (by kernel_rfl) (by kernel_rfl) (fun _ _ _ h => h) (Or.inl ⟨by rfl, ?_⟩) (by assumption) ?_
      rotate_left
      · intro X hSw
        go_simp
        try with_reducible rfl
      rotate_left
      try simp only [Act.put, List.setIfInBounds_toArray, List.set_cons_zero, List.set_cons_succ, List.getElem_toArray, List.getElem_cons_zero, List.getElem_cons_succ]
      refine wpAnyH_take (i := 9) (v := ?_) rfl (by kernel_rfl) (by kernel_rfl) (by kernel_rfl) (fun _ _ _ h => h) (Or.inl ⟨by rfl, ?_⟩) (by assumption) ?_
      rotate_left
      · intro X hSw
        have ha1 : X.cell? ⟨w.heap.size, 1, none⟩ = some (.slice (some ⟨b, off', none⟩) ws.length eb) := (HAW.out.below hSw).cell 1
        have hb1 : X.cell? ⟨w.heap.size + 1, 1, none⟩ = some (.slice (some ⟨bb, off2, none⟩) ws.length eb2) := (HBB.out.below hSw).cell 1
        obtain ⟨hp0, hp1, hp2, hp3⟩ := HC.out X hSw
        go_simp
        try with_reducible rfl
      rotate_left
      try simp only [Act.put, List.setIfInBounds_toArray, List.set_cons_zero, List.set_cons_succ, List.getElem_toArray, List.getElem_cons_zero, List.getElem_cons_succ]
      refine wpAnyH_take (i := 10) (v := .bool false) rfl (by kernel_rfl) (by kernel_rfl) (by kernel_rfl) (fun _ _ _ h => h) (Or.inl ⟨by rfl, ?_⟩) (by assumption) ?_
      · intro X hSw
        go_simp
        try with_reducible rfl
      try simp only [Act.put, List.setIfInBounds_toArray, List.set_cons_zero, List.set_cons_succ, List.getElem_toArray, List.getElem_cons_zero, List.getElem_cons_succ]
      refine wpAnyH_done (by kernel_rfl) ?_ _
      go_wp2_with fail
      go_roundw
      case rel => exact ⟨k + 1, by omega, by go_num, below_trans HBW.out hHeld HBW.out.size⟩
      case measure => simp [intOf]; omega
    · obtain rfl : k = ws.length := by omega
      go_wp2_with fail
      go_ret
      exact ⟨rfl, below_trans HBW1.out HBW.out HBW1.out.size⟩
end Go.Proofs.Ytahnkkmngbckdaa
