/- copyholdref14.whole, Text, copyholdref07.Whole: the document's own answers; old memory is as it was. -/
import Derived.Test.YthnajmfbomedlaaTabText
import Derived.Test.YthnajmfbomedlaaRef01N0
import Derived.Test.YthnajmfbomedlaaRef01T0
import Derived.IntWalk
set_option linter.unusedVariables false
set_option linter.unusedSimpArgs false
namespace Go.Proofs.Ythnajmfbomedlaa
open Go.RowKit Copyhold

set_option maxHeartbeats 2000000 in
theorem ref14_whole (z : Int) (w : World) (h1 : -9223372036854775808 ≤ z) (h2 : z ≤ 9223372036854775807) :
    Calls Try.prog 48 #[.int .i64 z] w fun e w' => e = .returned (.string ⟨(wholeB z).toArray⟩) ∧ Below w.heap.size w w' := by
  obtain ⟨hf1, hf2⟩ := fold_bd z h1 h2
  have HF := Lib.hid (ref_Fold z w h1 h2)
  have HW : Hid (wholeB z = numB (foldN z).toNat) := Lib.hid rfl
  generalize foldN z = f at *
  go_enter Try.func48, Try.ntmps48
  go_wp2_with fail
  refine HF.out.mono ?_
  rintro e w1 ⟨rfl, rfl⟩
  go_wp2_with fail
  refine (ref_Num f w hf1 hf2).mono ?_
  rintro e w1 ⟨rfl, hb1⟩
  have HB1 := Lib.hid hb1
  clear hb1
  go_wp2_with fail
  go_ret
  exact ⟨by rw [HW.out]; rfl, HB1.out⟩

set_option maxHeartbeats 2000000 in
theorem ref07_Whole (l : List UInt8) (w : World) (hl : l.length ≤ 140737488355328) :
    Calls Try.prog 43 #[.string ⟨l.toArray⟩] w fun e w' => e = .returned (.tuple #[.int .i64 (takeWhole l).1, .string ⟨(takeWhole l).2.1.toArray⟩, .int .i64 (takeWhole l).2.2]) ∧ Below w.heap.size w w' := by
  have hbd := takeNum_bd l
  have HT := Lib.hid (ref_TakeNum l w hl)
  have HD : Hid (takeWhole l = (unfoldN ((takeNum l).1 : Int), (takeNum l).2.1, (takeNum l).2.2)) := Lib.hid rfl
  generalize takeNum l = x at *
  obtain ⟨n, r, e⟩ := x
  simp only at HT HD hbd
  have HU := Lib.hid (fun W => ref_Unfold (n : Int) W (by omega) (by omega))
  have HBD := Lib.hid hbd
  clear hbd
  go_enter Try.func43, Try.ntmps43
  go_wp2_with fail
  refine HT.out.mono ?_
  rintro e w1 ⟨rfl, hb1⟩
  have HB1 := Lib.hid hb1
  clear hb1
  go_wp2_with fail
  refine (HU.out _).mono ?_
  rintro e w2 ⟨rfl, rfl⟩
  go_wp2_with fail
  go_ret3
  exact ⟨by rw [HD.out]; rfl, HB1.out⟩

theorem rnum0 (W : World) : Calls Try.prog 47 #[.int .u64 0] W fun e w' => e = .returned (.string ⟨(numB 0).toArray⟩) ∧ Below W.heap.size W w' := ref_Num 0 W (by decide) (by decide)
theorem rnum1 (W : World) : Calls Try.prog 47 #[.int .u64 1] W fun e w' => e = .returned (.string ⟨(numB 1).toArray⟩) ∧ Below W.heap.size W w' := ref_Num 1 W (by decide) (by decide)
theorem partsJ_size (rs : List TRow) (k : Nat) (hk : k < rs.length) (j : Nat) (h : Small rs) (ho : ∀ r ∈ rs, i64ok r.client ∧ i64ok r.epoch ∧ i64ok r.done ∧ ∀ d ∈ r.l, i64ok d.1) : (partsJ rs k rs[k] j).flatten.length ≤ 20100000 := by
  have hs := rowsP_short rs h ho
  have h1 := partsJ_len rs k rs[k] j h (h.2 _ (List.getElem_mem hk))
  have h2 := parts_size (partsJ rs k rs[k] j) (fun p hp => by
    refine hs p ?_
    unfold partsJ partsK at hp
    unfold rowsP
    rcases List.mem_append.1 hp with hp | hp
    · rcases List.mem_cons.1 hp with rfl | hp
      · exact List.mem_cons_self
      · obtain ⟨r, hr, hp⟩ := List.mem_flatMap.1 hp
        exact List.mem_cons_of_mem _ (List.mem_flatMap.2 ⟨r, List.mem_of_mem_take hr, hp⟩)
    · refine List.mem_cons_of_mem _ (List.mem_flatMap.2 ⟨rs[k], List.getElem_mem hk, ?_⟩)
      unfold rowP
      rcases List.mem_append.1 hp with hp | hp
      · exact List.mem_append_left _ hp
      · obtain ⟨d, hd, hp⟩ := List.mem_flatMap.1 hp
        exact List.mem_append_right _ (List.mem_flatMap.2 ⟨d, List.mem_of_mem_take hd, hp⟩))
  omega
theorem partsK_sub (rs : List TRow) (k : Nat) (r : TRow) : (partsK rs k).flatten.length ≤ (partsJ rs k r 0).flatten.length := by
  unfold partsJ
  rw [List.flatten_append, List.length_append]
  omega

set_option maxRecDepth 100000 in
set_option maxHeartbeats 16000000 in
theorem ref14_Text (rs : List TRow) (v : Value) (w : World) (hr : RowsIn w v rs) (hsm : Small rs) :
    Calls Try.prog 25 #[v] w fun e w' => e = .returned (.string ⟨(rowsB rs).toArray⟩) ∧ Below w.heap.size w w' := by
  obtain ⟨A, c, rfl⟩ := SlOf.shape hr
  have hn1 := hsm.1
  have HOK := Lib.hid (rows_ok4 hr)
  have HSM := Lib.hid hsm
  have HR := Lib.hid hr
  have HN := Lib.hid (fun W => ref_Num (rs.length : Int) W (by omega) (by omega))
  have hwl : IntKind.u64.wrap (rs.length : Int) = (rs.length : Int) := by rw [wrap_u64']; omega
  have HP0 := Lib.hid (show (partsK rs 0).flatten = numB rs.length from by unfold partsK; simp)
  clear hr hsm
  go_enter Try.func25, Try.ntmps25
  go_wp2_with fail
  refine (HN.out _).mono ?_
  rintro e w1 ⟨rfl, hb1⟩
  rw [Int.toNat_natCast, ← HP0.out]
  have HB1 := Lib.hid hb1
  clear hb1 hwl
  go_wp2_with fail
  go_loopw [3, 4] (fun sp si wr => ∃ k : Nat, si = .int .i64 k ∧ k ≤ rs.length ∧ sp = .string ⟨(partsK rs k).flatten.toArray⟩ ∧ Below w.heap.size w wr) (fun _ si _ => rs.length - (intOf si).toNat)
  case atStart => exact ⟨0, rfl, Nat.zero_le _, rfl, HB1.out⟩
  case round =>
    clear HB1
    rename World => wo
    obtain ⟨k, rfl, hk, rfl, hbk⟩ := hrel
    have HBK := Lib.hid hbk
    clear hbk
    by_cases hlt : k < rs.length
    · obtain ⟨b, off, A', c', rfl, hbk, k0, k1, k2, k3, hsl, hll, o1, o2, o3⟩ := RowsIn.at HR.out k hlt
      have HK3 := Lib.hid k3
      replace k0 := cell_keep HBK.out k0
      replace k1 := cell_keep HBK.out k1
      replace k2 := cell_keep HBK.out k2
      replace k3 := cell_keep HBK.out k3
      have hki : (k : Int) < (rs.length : Int) := by omega
      have hrl := HSM.out.2 rs[k] (List.getElem_mem hlt)
      have HPJ0 := Lib.hid (show (partsJ rs k rs[k] 0).flatten = (partsK rs k).flatten ++ (wholeB rs[k].client ++ (wholeB rs[k].epoch ++ (wholeB rs[k].done ++ numB rs[k].l.length))) from by unfold partsJ headP; simp)
      have HSTK := Lib.hid (partsK_step rs k hlt)
      have HPSJ := Lib.hid (fun j => partsJ_size rs k hlt j HSM.out HOK.out)
      have hsk : (partsK rs k).flatten.length ≤ 20100000 := Nat.le_trans (partsK_sub rs k rs[k]) (HPSJ.out 0)
      have HSTJ := Lib.hid (fun (j : Nat) (hj : j < rs[k].l.length) => congrArg List.flatten (partsJ_step rs k rs[k] j hj))
      have HSL := Lib.hid hsl
      obtain ⟨p1, p2⟩ := o1
      obtain ⟨p3, p4⟩ := o2
      obtain ⟨p5, p6⟩ := o3
      have HND := Lib.hid (decs_ok hsl)
      clear hsl
      generalize rs[k] = r at *
      obtain ⟨rc, re, rd, rl⟩ := r
      simp only at k0 k1 k2 k3 hll p1 p2 p3 p4 p5 p6 hrl HSL HND HPJ0 HK3
      have hwr : IntKind.u64.wrap (rl.length : Int) = (rl.length : Int) := by rw [wrap_u64']; omega
      have HNL := Lib.hid (fun W => ref_Num (rl.length : Int) W (by omega) (by omega))
      rw [Int.toNat_natCast] at HNL
      have HN1 := Lib.hid (fun W => ref14_whole rc W p1 p2)
      have HN2 := Lib.hid (fun W => ref14_whole re W p3 p4)
      have HN3 := Lib.hid (fun W => ref14_whole rd W p5 p6)
      have b1 := wholeB_len rc ⟨p1, p2⟩
      have b2 := wholeB_len re ⟨p3, p4⟩
      have b3 := wholeB_len rd ⟨p5, p6⟩
      have b4 := numB_len10 rl.length (by omega)
      obtain ⟨S, hS⟩ : ∃ S, (partsK rs k).flatten = S := ⟨_, rfl⟩
      rw [hS] at hsk HPJ0 ⊢
      have HS := Lib.hid hS
      clear hS
      generalize wholeB rc = u1 at *
      generalize wholeB re = u2 at *
      generalize wholeB rd = u3 at *
      generalize numB rl.length = u4 at *
      have q1 : ¬ 9223372036854775807 < S.length + u1.length := by omega
      have q2 : ¬ 9223372036854775807 < S.length + u1.length + u2.length := by omega
      have q3 : ¬ 9223372036854775807 < S.length + u1.length + u2.length + u3.length := by omega
      have q4 : ¬ 9223372036854775807 < S.length + u1.length + u2.length + u3.length + u4.length := by omega
      have q2' : ¬ 9223372036854775807 < S.length + (u1.length + u2.length) := by omega
      have q3' : ¬ 9223372036854775807 < S.length + (u1.length + u2.length) + u3.length := by omega
      have q4' : ¬ 9223372036854775807 < S.length + (u1.length + (u2.length + u3.length)) + u4.length := by omega
      have hk0 : (0 : Int) ≤ (k : Int) := by omega
      have HSB : Hid (∀ (W W2 : World), (fun W => W.cell? ⟨b, off + k * 4, none⟩ = some (.int .i64 rc) ∧ W.cell? ⟨b, off + k * 4 + 1, none⟩ = some (.int .i64 re) ∧ W.cell? ⟨b, off + k * 4 + 2, none⟩ = some (.int .i64 rd) ∧ W.cell? ⟨b, off + k * 4 + 3, none⟩ = some (.slice A' rl.length c') ∧ Below w.heap.size w W) W → Below W.heap.size W W2 → (fun W => W.cell? ⟨b, off + k * 4, none⟩ = some (.int .i64 rc) ∧ W.cell? ⟨b, off + k * 4 + 1, none⟩ = some (.int .i64 re) ∧ W.cell? ⟨b, off + k * 4 + 2, none⟩ = some (.int .i64 rd) ∧ W.cell? ⟨b, off + k * 4 + 3, none⟩ = some (.slice A' rl.length c') ∧ Below w.heap.size w W) W2) := Lib.hid (fun W W2 h hb => ⟨cell_keep hb h.1, cell_keep hb h.2.1, cell_keep hb h.2.2.1, cell_keep hb h.2.2.2.1, below_trans h.2.2.2.2 hb (Below.size h.2.2.2.2)⟩)
      have HSD : Hid (∀ (W : World), (fun W => W.cell? ⟨b, off + k * 4, none⟩ = some (.int .i64 rc) ∧ W.cell? ⟨b, off + k * 4 + 1, none⟩ = some (.int .i64 re) ∧ W.cell? ⟨b, off + k * 4 + 2, none⟩ = some (.int .i64 rd) ∧ W.cell? ⟨b, off + k * 4 + 3, none⟩ = some (.slice A' rl.length c') ∧ Below w.heap.size w W) W → (fun W => W.cell? ⟨b, off + k * 4, none⟩ = some (.int .i64 rc) ∧ W.cell? ⟨b, off + k * 4 + 1, none⟩ = some (.int .i64 re) ∧ W.cell? ⟨b, off + k * 4 + 2, none⟩ = some (.int .i64 rd) ∧ W.cell? ⟨b, off + k * 4 + 3, none⟩ = some (.slice A' rl.length c') ∧ Below w.heap.size w W) W.drew) := Lib.hid (fun W h => ⟨h.1, h.2.1, h.2.2.1, h.2.2.2.1, below_dn h.2.2.2.2 1⟩)
      have HH1 := Lib.hid (show (fun W => W.cell? ⟨b, off + k * 4, none⟩ = some (.int .i64 rc) ∧ W.cell? ⟨b, off + k * 4 + 1, none⟩ = some (.int .i64 re) ∧ W.cell? ⟨b, off + k * 4 + 2, none⟩ = some (.int .i64 rd) ∧ W.cell? ⟨b, off + k * 4 + 3, none⟩ = some (.slice A' rl.length c') ∧ Below w.heap.size w W) wo from ⟨k0, k1, k2, k3, HBK.out⟩)
      clear b1 b2 b3 b4
      go_wp2_with fail
      refine wp_region_held_drew (S := fun W => W.cell? ⟨b, off + k * 4, none⟩ = some (.int .i64 rc) ∧ W.cell? ⟨b, off + k * 4 + 1, none⟩ = some (.int .i64 re) ∧ W.cell? ⟨b, off + k * 4 + 2, none⟩ = some (.int .i64 rd) ∧ W.cell? ⟨b, off + k * 4 + 3, none⟩ = some (.slice A' rl.length c') ∧ Below w.heap.size w W) (by kernel_rfl) (HSD.out _ HH1.out) (fun hHeld => ?_)
      refine wpAnyH_take (i := 0) (v := ?_) rfl (by kernel_rfl) (by kernel_rfl) (by kernel_rfl) (fun _ _ _ h => h) (Or.inl ⟨by rfl, ?_⟩) (by assumption) ?_
      rotate_left
      · intro w hSw
        try dsimp only at hSw
        go_simp
        try with_reducible rfl
      rotate_left
      try simp only [Act.put, List.setIfInBounds_toArray, List.set_cons_zero, List.set_cons_succ, List.getElem_toArray, List.getElem_cons_zero, List.getElem_cons_succ]
      refine wpAnyH_take (i := 1) (v := ?_) rfl (by kernel_rfl) (by kernel_rfl) (by kernel_rfl) (fun _ _ _ h => h) (Or.inl ⟨by rfl, ?_⟩) (by assumption) ?_
      rotate_left
      · intro w hSw
        try dsimp only at hSw
        go_simp
        try with_reducible rfl
      rotate_left
      try simp only [Act.put, List.setIfInBounds_toArray, List.set_cons_zero, List.set_cons_succ, List.getElem_toArray, List.getElem_cons_zero, List.getElem_cons_succ]
      refine wpAnyH_take (i := 2) (v := ?_) rfl (by kernel_rfl) (by kernel_rfl) (by kernel_rfl) (fun _ _ _ h => h) (Or.inl ⟨by rfl, ?_⟩) (by assumption) ?_
      rotate_left
      · intro w hSw
        try dsimp only at hSw
        go_simp
        try with_reducible rfl
      rotate_left
      try simp only [Act.put, List.setIfInBounds_toArray, List.set_cons_zero, List.set_cons_succ, List.getElem_toArray, List.getElem_cons_zero, List.getElem_cons_succ]
      refine wpAnyH_take (i := 3) (v := ?_) rfl (by kernel_rfl) (by kernel_rfl) (by kernel_rfl) (fun _ _ _ h => h) (Or.inl ⟨by rfl, ?_⟩) (by assumption) ?_
      rotate_left
      · intro w hSw
        try dsimp only at hSw
        go_simp
        try with_reducible rfl
      rotate_left
      try simp only [Act.put, List.setIfInBounds_toArray, List.set_cons_zero, List.set_cons_succ, List.getElem_toArray, List.getElem_cons_zero, List.getElem_cons_succ]
      refine wpAnyH_take (i := 4) (v := ?_) rfl (by kernel_rfl) (by kernel_rfl) (by kernel_rfl) (fun _ _ _ h => h) (Or.inl ⟨by rfl, ?_⟩) (by assumption) ?_
      rotate_left
      · intro w hSw
        try dsimp only at hSw
        go_simp
        try with_reducible rfl
      rotate_left
      try simp only [Act.put, List.setIfInBounds_toArray, List.set_cons_zero, List.set_cons_succ, List.getElem_toArray, List.getElem_cons_zero, List.getElem_cons_succ]
      refine wpAnyH_take (i := 5) (v := ?_) rfl (by kernel_rfl) (by kernel_rfl) (by kernel_rfl) (fun _ _ _ h => h) (Or.inl ⟨by rfl, ?_⟩) (by assumption) ?_
      rotate_left
      · intro w hSw
        try dsimp only at hSw
        go_simp
        try with_reducible rfl
      rotate_left
      try simp only [Act.put, List.setIfInBounds_toArray, List.set_cons_zero, List.set_cons_succ, List.getElem_toArray, List.getElem_cons_zero, List.getElem_cons_succ]
      refine wpAnyH_take (i := 8) (v := ?_) rfl (by kernel_rfl) (by kernel_rfl) (by kernel_rfl) (fun _ _ _ h => h) (Or.inl ⟨by rfl, ?_⟩) (by assumption) ?_
      rotate_left
      · intro w hSw
        try dsimp only at hSw
        go_simp
        try with_reducible rfl
      rotate_left
      try simp only [Act.put, List.setIfInBounds_toArray, List.set_cons_zero, List.set_cons_succ, List.getElem_toArray, List.getElem_cons_zero, List.getElem_cons_succ]
      refine wpAnyH_take (i := 9) (v := ?_) rfl (by kernel_rfl) (by kernel_rfl) (by kernel_rfl) (fun _ _ _ h => h) (Or.inl ⟨by rfl, ?_⟩) (by assumption) ?_
      rotate_left
      · intro w hSw
        try dsimp only at hSw
        go_simp
        try with_reducible rfl
      rotate_left
      try simp only [Act.put, List.setIfInBounds_toArray, List.set_cons_zero, List.set_cons_succ, List.getElem_toArray, List.getElem_cons_zero, List.getElem_cons_succ]
      refine wpAnyH_take (i := 10) (v := ?_) rfl (by kernel_rfl) (by kernel_rfl) (by kernel_rfl) (fun _ _ _ h => h) (Or.inl ⟨by rfl, ?_⟩) (by assumption) ?_
      rotate_left
      · intro w hSw
        try dsimp only at hSw
        go_simp
        try with_reducible rfl
      rotate_left
      try simp only [Act.put, List.setIfInBounds_toArray, List.set_cons_zero, List.set_cons_succ, List.getElem_toArray, List.getElem_cons_zero, List.getElem_cons_succ]
      refine wpAnyH_take (i := 11) (v := ?_) rfl (by kernel_rfl) (by kernel_rfl) (by kernel_rfl) (fun _ _ _ h => h) (Or.inl ⟨by rfl, ?_⟩) (by assumption) ?_
      rotate_left
      · intro w hSw
        try dsimp only at hSw
        go_simp
        try with_reducible rfl
      rotate_left
      try simp only [Act.put, List.setIfInBounds_toArray, List.set_cons_zero, List.set_cons_succ, List.getElem_toArray, List.getElem_cons_zero, List.getElem_cons_succ]
      refine wpAnyH_take (i := 12) (v := ?_) rfl (by kernel_rfl) (by kernel_rfl) (by kernel_rfl) (fun _ _ _ h => h) (Or.inl ⟨by rfl, ?_⟩) (by assumption) ?_
      rotate_left
      · intro w hSw
        try dsimp only at hSw
        go_simp
        try with_reducible rfl
      rotate_left
      try simp only [Act.put, List.setIfInBounds_toArray, List.set_cons_zero, List.set_cons_succ, List.getElem_toArray, List.getElem_cons_zero, List.getElem_cons_succ]
      refine wpAnyH_take (i := 15) (v := ?_) rfl (by kernel_rfl) (by kernel_rfl) (by kernel_rfl) (fun _ _ _ h => h) (Or.inl ⟨by rfl, ?_⟩) (by assumption) ?_
      rotate_left
      · intro w hSw
        try dsimp only at hSw
        go_simp
        try with_reducible rfl
      rotate_left
      try simp only [Act.put, List.setIfInBounds_toArray, List.set_cons_zero, List.set_cons_succ, List.getElem_toArray, List.getElem_cons_zero, List.getElem_cons_succ]
      refine wpAnyH_take (i := 16) (v := ?_) rfl (by kernel_rfl) (by kernel_rfl) (by kernel_rfl) (fun _ _ _ h => h) (Or.inl ⟨by rfl, ?_⟩) (by assumption) ?_
      rotate_left
      · intro w hSw
        try dsimp only at hSw
        go_simp
        try with_reducible rfl
      rotate_left
      try simp only [Act.put, List.setIfInBounds_toArray, List.set_cons_zero, List.set_cons_succ, List.getElem_toArray, List.getElem_cons_zero, List.getElem_cons_succ]
      refine wpAnyH_take (i := 17) (v := ?_) rfl (by kernel_rfl) (by kernel_rfl) (by kernel_rfl) (fun _ _ _ h => h) (Or.inl ⟨by rfl, ?_⟩) (by assumption) ?_
      rotate_left
      · intro w hSw
        try dsimp only at hSw
        go_simp
        try with_reducible rfl
      rotate_left
      try simp only [Act.put, List.setIfInBounds_toArray, List.set_cons_zero, List.set_cons_succ, List.getElem_toArray, List.getElem_cons_zero, List.getElem_cons_succ]
      refine wpAnyH_take (i := 18) (v := ?_) rfl (by kernel_rfl) (by kernel_rfl) (by kernel_rfl) (fun _ _ _ h => h) (Or.inl ⟨by rfl, ?_⟩) (by assumption) ?_
      rotate_left
      · intro w hSw
        try dsimp only at hSw
        go_simp
        try with_reducible rfl
      rotate_left
      try simp only [Act.put, List.setIfInBounds_toArray, List.set_cons_zero, List.set_cons_succ, List.getElem_toArray, List.getElem_cons_zero, List.getElem_cons_succ]
      refine wpAnyH_take (i := 19) (v := ?_) rfl (by kernel_rfl) (by kernel_rfl) (by kernel_rfl) (fun _ _ _ h => h) (Or.inl ⟨by rfl, ?_⟩) (by assumption) ?_
      rotate_left
      · intro w hSw
        try dsimp only at hSw
        go_simp
        try with_reducible rfl
      rotate_left
      try simp only [Act.put, List.setIfInBounds_toArray, List.set_cons_zero, List.set_cons_succ, List.getElem_toArray, List.getElem_cons_zero, List.getElem_cons_succ]
      refine wpAnyH_take (i := 22) (v := ?_) rfl (by kernel_rfl) (by kernel_rfl) (by kernel_rfl) (fun _ _ _ h => h) (Or.inl ⟨by rfl, ?_⟩) (by assumption) ?_
      rotate_left
      · intro w hSw
        try dsimp only at hSw
        go_simp
        try with_reducible rfl
      rotate_left
      try simp only [Act.put, List.setIfInBounds_toArray, List.set_cons_zero, List.set_cons_succ, List.getElem_toArray, List.getElem_cons_zero, List.getElem_cons_succ]
      refine wpAnyH_take (i := 23) (v := ?_) rfl (by kernel_rfl) (by kernel_rfl) (by kernel_rfl) (fun _ _ _ h => h) (Or.inl ⟨by rfl, ?_⟩) (by assumption) ?_
      rotate_left
      · intro w hSw
        try dsimp only at hSw
        go_simp
        try with_reducible rfl
      rotate_left
      try simp only [Act.put, List.setIfInBounds_toArray, List.set_cons_zero, List.set_cons_succ, List.getElem_toArray, List.getElem_cons_zero, List.getElem_cons_succ]
      refine wpAnyH_take (i := 24) (v := ?_) rfl (by kernel_rfl) (by kernel_rfl) (by kernel_rfl) (fun _ _ _ h => h) (Or.inl ⟨by rfl, ?_⟩) (by assumption) ?_
      rotate_left
      · intro w hSw
        try dsimp only at hSw
        go_simp
        try with_reducible rfl
      rotate_left
      try simp only [Act.put, List.setIfInBounds_toArray, List.set_cons_zero, List.set_cons_succ, List.getElem_toArray, List.getElem_cons_zero, List.getElem_cons_succ]
      refine wpAnyH_take (i := 25) (v := ?_) rfl (by kernel_rfl) (by kernel_rfl) (by kernel_rfl) (fun _ _ _ h => h) (Or.inl ⟨by rfl, ?_⟩) (by assumption) ?_
      rotate_left
      · intro w hSw
        try dsimp only at hSw
        go_simp
        try with_reducible rfl
      rotate_left
      try simp only [Act.put, List.setIfInBounds_toArray, List.set_cons_zero, List.set_cons_succ, List.getElem_toArray, List.getElem_cons_zero, List.getElem_cons_succ]
      refine wpAnyH_take (i := 26) (v := ?_) rfl (by kernel_rfl) (by kernel_rfl) (by kernel_rfl) (fun _ _ _ h => h) (Or.inl ⟨by rfl, ?_⟩) (by assumption) ?_
      rotate_left
      · intro w hSw
        try dsimp only at hSw
        go_simp
        try with_reducible rfl
      rotate_left
      try simp only [Act.put, List.setIfInBounds_toArray, List.set_cons_zero, List.set_cons_succ, List.getElem_toArray, List.getElem_cons_zero, List.getElem_cons_succ]
      refine wpAnyH_take (i := 27) (v := ?_) rfl (by kernel_rfl) (by kernel_rfl) (by kernel_rfl) (fun _ _ _ h => h) (Or.inl ⟨by rfl, ?_⟩) (by assumption) ?_
      rotate_left
      · intro w hSw
        try dsimp only at hSw
        go_simp
        try with_reducible rfl
      rotate_left
      try simp only [Act.put, List.setIfInBounds_toArray, List.set_cons_zero, List.set_cons_succ, List.getElem_toArray, List.getElem_cons_zero, List.getElem_cons_succ]
      refine wpAnyH_take (i := 28) (v := ?_) rfl (by kernel_rfl) (by kernel_rfl) (by kernel_rfl) (fun _ _ _ h => h) (Or.inl ⟨by rfl, ?_⟩) (by assumption) ?_
      rotate_left
      · intro w hSw
        try dsimp only at hSw
        go_simp
        try with_reducible rfl
      rotate_left
      try simp only [Act.put, List.setIfInBounds_toArray, List.set_cons_zero, List.set_cons_succ, List.getElem_toArray, List.getElem_cons_zero, List.getElem_cons_succ]
      refine wpAnyH_ready (rs := [6]) (by kernel_rfl) (by simp) ?_
      refine (AllReadyH.cons rfl (fun K hK => ?_) AllReadyH.nil)
      rw [if_pos (by rfl)]
      go_wp2_with fail
      refine (HN1.out _).mono ?_
      rintro e w7 ⟨rfl, hb7⟩
      replace hHeld := HSB.out _ _ hHeld hb7
      clear hb7
      refine hK.out _ _ hHeld (fun _ => ?_)
      clear hK K
      try simp only [Act.put, List.setIfInBounds_toArray, List.set_cons_zero, List.set_cons_succ, List.getElem_toArray, List.getElem_cons_zero, List.getElem_cons_succ]
      refine wpAnyH_take (i := 7) (v := ?_) rfl (by kernel_rfl) (by kernel_rfl) (by kernel_rfl) (fun _ _ _ h => h) (Or.inl ⟨by rfl, ?_⟩) (by assumption) ?_
      rotate_left
      · intro w hSw
        try dsimp only at hSw
        go_simp
        try with_reducible rfl
      rotate_left
      try simp only [Act.put, List.setIfInBounds_toArray, List.set_cons_zero, List.set_cons_succ, List.getElem_toArray, List.getElem_cons_zero, List.getElem_cons_succ]
      refine wpAnyH_ready (rs := [13]) (by kernel_rfl) (by simp) ?_
      refine (AllReadyH.cons rfl (fun K hK => ?_) AllReadyH.nil)
      rw [if_pos (by rfl)]
      go_wp2_with fail
      refine (HN2.out _).mono ?_
      rintro e w7 ⟨rfl, hb7⟩
      replace hHeld := HSB.out _ _ hHeld hb7
      clear hb7
      refine hK.out _ _ hHeld (fun _ => ?_)
      clear hK K
      try simp only [Act.put, List.setIfInBounds_toArray, List.set_cons_zero, List.set_cons_succ, List.getElem_toArray, List.getElem_cons_zero, List.getElem_cons_succ]
      refine wpAnyH_take (i := 14) (v := ?_) rfl (by kernel_rfl) (by kernel_rfl) (by kernel_rfl) (fun _ _ _ h => h) (Or.inl ⟨by rfl, ?_⟩) (by assumption) ?_
      rotate_left
      · intro w hSw
        try dsimp only at hSw
        go_simp
        try with_reducible rfl
      rotate_left
      try simp only [Act.put, List.setIfInBounds_toArray, List.set_cons_zero, List.set_cons_succ, List.getElem_toArray, List.getElem_cons_zero, List.getElem_cons_succ]
      refine wpAnyH_ready (rs := [20]) (by kernel_rfl) (by simp) ?_
      refine (AllReadyH.cons rfl (fun K hK => ?_) AllReadyH.nil)
      rw [if_pos (by rfl)]
      go_wp2_with fail
      refine (HN3.out _).mono ?_
      rintro e w7 ⟨rfl, hb7⟩
      replace hHeld := HSB.out _ _ hHeld hb7
      clear hb7
      refine hK.out _ _ hHeld (fun _ => ?_)
      clear hK K
      try simp only [Act.put, List.setIfInBounds_toArray, List.set_cons_zero, List.set_cons_succ, List.getElem_toArray, List.getElem_cons_zero, List.getElem_cons_succ]
      refine wpAnyH_take (i := 21) (v := ?_) rfl (by kernel_rfl) (by kernel_rfl) (by kernel_rfl) (fun _ _ _ h => h) (Or.inl ⟨by rfl, ?_⟩) (by assumption) ?_
      rotate_left
      · intro w hSw
        try dsimp only at hSw
        go_simp
        try with_reducible rfl
      rotate_left
      try simp only [Act.put, List.setIfInBounds_toArray, List.set_cons_zero, List.set_cons_succ, List.getElem_toArray, List.getElem_cons_zero, List.getElem_cons_succ]
      refine wpAnyH_ready (rs := [29]) (by kernel_rfl) (by simp) ?_
      refine (AllReadyH.cons rfl (fun K hK => ?_) AllReadyH.nil)
      rw [if_pos (by rfl)]
      go_wp2_with fail
      refine (HNL.out _).mono ?_
      rintro e w7 ⟨rfl, hb7⟩
      replace hHeld := HSB.out _ _ hHeld hb7
      clear hb7
      refine hK.out _ _ hHeld (fun _ => ?_)
      clear hK K
      try simp only [Act.put, List.setIfInBounds_toArray, List.set_cons_zero, List.set_cons_succ, List.getElem_toArray, List.getElem_cons_zero, List.getElem_cons_succ]
      refine wpAnyH_take (i := 30) (v := ?_) rfl (by kernel_rfl) (by kernel_rfl) (by kernel_rfl) (fun _ _ _ h => h) (Or.inl ⟨by rfl, ?_⟩) (by assumption) ?_
      rotate_left
      · intro w hSw
        try dsimp only at hSw
        go_simp
        try with_reducible rfl
      rotate_left
      try simp only [Act.put, List.setIfInBounds_toArray, List.set_cons_zero, List.set_cons_succ, List.getElem_toArray, List.getElem_cons_zero, List.getElem_cons_succ]
      refine wpAnyH_take (i := 31) (v := ?_) rfl (by kernel_rfl) (by kernel_rfl) (by kernel_rfl) (fun _ _ _ h => h) (Or.inl ⟨by rfl, ?_⟩) (by assumption) ?_
      rotate_left
      · intro w hSw
        try dsimp only at hSw
        go_simp
        try with_reducible rfl
      rotate_left
      try simp only [Act.put, List.setIfInBounds_toArray, List.set_cons_zero, List.set_cons_succ, List.getElem_toArray, List.getElem_cons_zero, List.getElem_cons_succ]
      refine wpAnyH_done (by kernel_rfl) ?_ _
      have HH2 := Lib.hid hHeld
      clear hHeld q1 q2 q3 q4 q2' q3' q4' hwr HSB HSD HN1 HN2 HN3 HNL
      have HPJ1 := Lib.hid (show (partsJ rs k ⟨rc, re, rd, rl⟩ 0).flatten = S ++ u1 ++ u2 ++ u3 ++ u4 from by rw [HPJ0.out]; simp [List.append_assoc])
      go_wp2_with fail
      go_loopw [3, 5] (fun sp sj wr => ∃ j : Nat, sj = .int .i64 j ∧ j ≤ rl.length ∧ sp = .string ⟨(partsJ rs k ⟨rc, re, rd, rl⟩ j).flatten.toArray⟩ ∧ Below w.heap.size w wr) (fun _ sj _ => rl.length - (intOf sj).toNat)
      case atStart => exact ⟨0, rfl, Nat.zero_le _, by rw [HPJ1.out] <;> simp [List.append_assoc], HH2.out.2.2.2.2⟩
      case round =>
        rename World => wi
        obtain ⟨j, rfl, hj, rfl, hbj⟩ := hrel
        have HX := Lib.hid hbj
        have k3' := cell_keep hbj HK3.out
        clear hbj k0 k1 k2 k3
        by_cases hjl : j < rl.length
        · obtain ⟨b2, off2, hA2, hbk2, y0, y1, od⟩ := decs_at HSL.out j hjl
          subst hA2
          have d0 := cell_keep HX.out y0
          have d1 := cell_keep HX.out y1
          have hji : (j : Int) < (rl.length : Int) := by omega
          have hsz := HPSJ.out j
          have hsz1 := HPSJ.out (j + 1)
          have HST := Lib.hid (show (partsJ rs k ⟨rc, re, rd, rl⟩ (j + 1)).flatten = (partsJ rs k ⟨rc, re, rd, rl⟩ j).flatten ++ (wholeB rl[j].1 ++ numB (yesN rl[j].2)) from by rw [HSTJ.out j hjl, List.flatten_append]; simp [List.flatten])
          obtain ⟨e1, e2⟩ := od
          clear y0 y1
          generalize rl[j] = d at *
          obtain ⟨dq, db⟩ := d
          simp only at d0 d1 e1 e2 HST
          have HNQ := Lib.hid (fun W => ref14_whole dq W e1 e2)
          have hbq := wholeB_len dq ⟨e1, e2⟩
          generalize (partsJ rs k ⟨rc, re, rd, rl⟩ j).flatten = S2 at *
          generalize wholeB dq = v1 at *
          have hv : (S2 ++ v1).length ≤ 20100010 := by rw [List.length_append]; omega
          cases db
          · go_wp2_with fail
            refine (HNQ.out _).mono ?_
            rintro e w4 ⟨rfl, hb4⟩
            have HB4 := Lib.hid (below_trans HX.out hb4 HX.out.size)
            have k4 := cell_keep hb4 k3'
            have d4 := cell_keep hb4 d1
            clear hb4
            go_wp2_with fail
            refine (rnum0 _).mono ?_
            rintro e w5 ⟨rfl, hb5⟩
            have HB5 := Lib.hid (below_trans HB4.out hb5 HB4.out.size)
            clear hb5
            have hn1 : (numB 0).length ≤ 10 := numB_len10 _ (by decide)
            have HND2 : Hid (numB (yesN false) = numB 0) := Lib.hid rfl
            rw [HND2.out] at HST
            generalize numB 0 = v2 at *
            go_wp2_with fail
            go_roundw
            case rel => exact ⟨j + 1, by go_num, by omega, by rw [HST.out] <;> simp [List.append_assoc], HB5.out⟩
            case measure => simp [intOf]; omega
          · go_wp2_with fail
            refine (HNQ.out _).mono ?_
            rintro e w4 ⟨rfl, hb4⟩
            have HB4 := Lib.hid (below_trans HX.out hb4 HX.out.size)
            have k4 := cell_keep hb4 k3'
            have d4 := cell_keep hb4 d1
            clear hb4
            go_wp2_with fail
            refine (rnum1 _).mono ?_
            rintro e w5 ⟨rfl, hb5⟩
            have HB5 := Lib.hid (below_trans HB4.out hb5 HB4.out.size)
            clear hb5
            have hn1 : (numB 1).length ≤ 10 := numB_len10 _ (by decide)
            have HND2 : Hid (numB (yesN true) = numB 1) := Lib.hid rfl
            rw [HND2.out] at HST
            generalize numB 1 = v2 at *
            go_wp2_with fail
            go_roundw
            case rel => exact ⟨j + 1, by go_num, by omega, by rw [HST.out] <;> simp [List.append_assoc], HB5.out⟩
            case measure => simp [intOf]; omega
        · have hfin : partsJ rs k ⟨rc, re, rd, rl⟩ j = partsK rs (k + 1) := by
            rw [HSTK.out, show j = rl.length from by omega]
          rw [hfin]
          have hji : ¬ (j : Int) < (rl.length : Int) := by omega
          clear hfin
          go_wp2_with fail
          go_roundw
          case rel => exact ⟨k + 1, by go_num, by omega, rfl, HX.out⟩
          case measure => simp [intOf]; omega
    · obtain rfl : k = rs.length := by omega
      have hfin : (partsK rs rs.length).flatten = rowsB rs := by rw [partsK_end]; rfl
      rw [hfin]
      clear hfin
      go_wp2_with fail
      go_ret
      exact ⟨rfl, HBK.out⟩
end Go.Proofs.Ythnajmfbomedlaa

