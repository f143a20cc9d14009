/- disk.Write: it answers as the document says; old memory is as it was. -/
import Derived.Test.YtahnkkmngbckdaaDisk8
import Derived.Deep.RegionHeld3
set_option linter.unusedVariables false
set_option linter.unusedSimpArgs false
namespace Copyhold
open Go Go.RowKit
/-- copy of elements of k cells into a block known whole -/
theorem run_copy_rowk {P : Program} (k : Nat) (w : World) (dT sT ty elem : TypeId) (g o dLen dCap : Nat) (a : Addr) (sLen sCap : Nat) (cur : Array Value) (t : TypeId) (cs : List Value)
    (hu : P.underlying dT = some (.slice elem)) (hs : (P.info? elem).map (·.size) = some k)
    (hg : w.heap[g]? = some (.cells cur t (0, 0))) (hn : cs.length = Nat.min sLen dLen * k)
    (hsrc : ∀ j v, cs[j]? = some v → w.cell? (a.add j) = some v) (hfit : o + cs.length ≤ cur.size) (h1 : ∀ v ∈ cs, v.oneCell' = true) :
    (Builtin.copy_ #[dT, sT] ty #[.slice (some ⟨g, o, none⟩) dLen dCap, .slice (some a) sLen sCap]).run P w =
      .ok (goInt (Nat.min sLen dLen : Nat)) (w.setRow g (cur.toList.take o ++ cs ++ cur.toList.drop (o + cs.length)).toArray) := by
  have hl := run_loadCells_list (P := P) w a cs hsrc
  have hst := run_storeCells_at P g o t cs 0 cur w hg (by simpa using hfit) h1
  cases hq : P.info? elem with
  | none => simp [hq] at hs
  | some i =>
    have hi : i.size = k := by simpa [hq] using hs
    simp [Builtin.copy_, run_underlying hu, Builtin.lenOf, Builtin.firstCells, Go.sizeOf, typeInfo, hq, hi, ← hn, hl, hst]
theorem run_copy_nonek {P : Program} (k : Nat) (w : World) (dT sT ty elem : TypeId) (d a : Option Addr) (dLen dCap sLen sCap : Nat) (hu : P.underlying dT = some (.slice elem)) (hs : (P.info? elem).map (·.size) = some k) (hn : Nat.min sLen dLen = 0) :
    (Builtin.copy_ #[dT, sT] ty #[.slice d dLen dCap, .slice a sLen sCap]).run P w = .ok (goInt 0) w := by
  cases hq : P.info? elem with
  | none => simp [hq] at hs
  | some i =>
    have hl : ∀ (x : Addr), (loadCells x 0).run P w = .ok #[] w := fun x => by simpa using run_loadCells_list (P := P) w x [] (by simp)
    cases d <;> cases a <;> simp [Builtin.copy_, run_underlying hu, Builtin.lenOf, Builtin.firstCells, Go.sizeOf, typeInfo, hq, hn, storeCells, hl]
theorem copy_newk {P : Program} (k : Nat) (w : World) (dT sT ty e : TypeId) (g n dl cap : Nat) (cur : List Value) (t : TypeId) (sv : Value) (xs : List Value) (hu : P.underlying dT = some (.slice e)) (hs : (P.info? e).map (·.size) = some k)
    (hg : w.heap[g]? = some (.cells cur.toArray t (0, 0))) (hcl : n * k ≤ cur.length) (hnd : n ≤ dl) (hsv : Sl w k sv n xs) (h1 : ∀ u ∈ xs, u.oneCell' = true) :
    ∃ w', (Builtin.copy_ #[dT, sT] ty #[.slice (some ⟨g, 0, none⟩) dl cap, sv]).run P w = .ok (goInt n) w' ∧ w'.heap[g]? = some (.cells (xs ++ cur.drop (n * k)).toArray t (0, 0)) ∧ (∀ j, j ≠ g → w'.heap[j]? = w.heap[j]?) ∧ Below g w w' := by
  obtain ⟨A, c, rfl, hc, hl, hh⟩ := hsv
  have hmin : Nat.min n dl = n := Nat.min_eq_left hnd
  by_cases h0 : 0 < n
  · obtain ⟨b, off, rfl, hbk, hcell⟩ := hh h0
    have hr := run_copy_rowk (P := P) k w dT sT ty e g 0 dl cap ⟨b, off, none⟩ n c cur.toArray t xs hu hs hg (by rw [hl, hmin]) (fun j v hv => by rw [add_plain']; exact hcell j v hv) (by simp; omega) h1
    rw [hl, hmin] at hr
    refine ⟨_, hr, ?_, fun j hj => setRow_other w g j _ hj, ?_⟩
    · rw [setRow_heap w g _ _ t _ hg]
      simp
    · exact below_setRow (Below.refl _ _) (Nat.le_refl _) _
  · obtain rfl : n = 0 := by omega
    obtain rfl : xs = [] := List.eq_nil_of_length_eq_zero (by rw [hl, Nat.zero_mul])
    exact ⟨w, run_copy_nonek k w dT sT ty e _ _ dl cap 0 c hu hs hmin, by simpa using hg, fun _ _ => rfl, Below.refl _ _⟩
end Copyhold
namespace Go.Proofs.Ytahnkkmngbckdaa
open Go.RowKit Copyhold Copyhold.Disk

theorem putElem : Elem Try.prog 23 56 (.agg #[Value.int .i64 0, Value.string ByteArray.empty]) 2 24 := ⟨by kernel_rfl, by kernel_rfl, rfl, by decide⟩

theorem made2 (a b : Value) (m : Nat) : (madeCells #[a, b] ((m + 1) * 2)).toList.drop (m * 2) = [a, b] := by
  apply List.ext_getElem?
  intro j
  rw [List.getElem?_drop]
  simp only [madeCells]
  match j with
  | 0 => simp
  | 1 =>
    have h1 : (m * 2 + 1) % 2 = 1 := by omega
    have h2 : m * 2 + 1 < (m + 1) * 2 := by omega
    simp [h1, h2]
  | j + 2 =>
    have h2 : ¬ m * 2 + (j + 2) < (m + 1) * 2 := by omega
    simp [h2]
theorem madeP_len (m : Nat) : (madeCells #[Value.int .i64 0, Value.string ByteArray.empty] ((m + 1) * 2)).toList.length = (m + 1) * 2 := by simp [madeCells]
theorem make_puts (m : Nat) (hm : m ≤ 5864062014634) (w : World) :
    (Instr.makeSlice 23 (.int .i64 ((m : Int) + 1)) (.int .i64 ((m : Int) + 1))).run Try.prog w = .ok (.slice (some ⟨w.heap.size, 0, none⟩) (m + 1) (m + 1)) (w.alloc (.cells (madeCells #[Value.int .i64 0, Value.string ByteArray.empty] ((m + 1) * 2)) 56)) := by
  obtain ⟨ht, hinf, hzs, hsz⟩ := putElem
  obtain ⟨i, hi, hz, hsize, hby⟩ := info_of hinf
  have hb' : (i.bytes : Int) * ((m + 1 : Nat) : Int) ≤ 281474976710656 := by rw [hby]; omega
  have h := run_make (P := Try.prog) w 23 56 i _ ht hi hz .i64 .i64 ((m + 1 : Nat) : Int) ((m + 1 : Nat) : Int) (by omega) (by omega) hb' (by omega)
  rw [hsize, Int.toNat_natCast] at h
  rw [show ((m : Int) + 1) = ((m + 1 : Nat) : Int) from by omega]
  exact h

/-- a write, and why not -/
def writeD (d : DiskW) (at' : Int) (s : List UInt8) : DiskW × Int :=
  if refusedD d.kept.length d.off at' ≠ 0 then (d, refusedD d.kept.length d.off at') else if 64 < s.length then (d, 5) else (⟨d.kept, d.w ++ [(at', padL s)], false⟩, 0)

set_option maxRecDepth 100000 in
set_option maxHeartbeats 8000000 in
theorem disk_Write (d : DiskW) (v : Value) (at' : Int) (s : List UInt8) (w : World) (hv : DiskV w v d) (hok : OkD d) (hs : s.length ≤ 140737488351232) :
    Calls Try.prog 23 #[v, .int .i64 at', .string ⟨s.toArray⟩] w (RetDisk w (writeD d at' s)) := by
  have hv0 := hv
  obtain ⟨A, c, B, eb, rfl, hk, hp⟩ := hv
  obtain ⟨V0, hV0⟩ : ∃ W, W = (w.alloc (.cells #[.slice A d.kept.length c, .slice B d.w.length eb, .bool d.off] 25)).alloc (.cells #[.slice none 0 0, .slice none 0 0, .bool false] 25) := ⟨_, rfl⟩
  have hb0 : Below w.heap.size w V0 := by rw [hV0]; exact ((Below.refl _ _).alloc (Nat.le_refl _) _).alloc (by simp) _
  have td0 : TBox V0 w.heap.size 25 #[.slice A d.kept.length c, .slice B d.w.length eb, .bool d.off] := by rw [hV0]; exact (TBox.new _ _ _).alloc _
  have tr0 : TBox V0 (w.heap.size + 1) 25 #[.slice none 0 0, .slice none 0 0, .bool false] := by
    rw [hV0]
    have := TBox.new (w.alloc (.cells #[.slice A d.kept.length c, .slice B d.w.length eb, .bool d.off] 25)) 25 #[.slice none 0 0, .slice none 0 0, .bool false]
    rw [World.size_alloc] at this
    exact this
  have HREF := Lib.hid (fun W => disk_refused A B d.kept.length d.w.length c eb d.off at' W hok.1)
  have HV0 := Lib.hid hV0
  have HD0 := Lib.hid td0
  have HR0 := Lib.hid tr0
  have HB0 := Lib.hid hb0
  have HVV := Lib.hid hv0
  have HK := Lib.hid hk
  have HP := Lib.hid hp
  clear hV0 td0 tr0 hb0 hv0 hk hp
  have hbd := refused_bd d.kept.length d.off at'
  have err : ∀ (r : Int) (w1 : World), Below V0.heap.size V0 w1 → RetDisk w (d, r) (.returned (.tuple #[.agg #[.slice A d.kept.length c, .slice B d.w.length eb, .bool d.off], .int .i64 r])) (((w1.setCell ⟨w.heap.size + 1, 0, none⟩ (.slice A d.kept.length c)).setCell ⟨w.heap.size + 1, 1, none⟩ (.slice B d.w.length eb)).setCell ⟨w.heap.size + 1, 2, none⟩ (.bool d.off)) := fun r w1 hb => by
    have hbb := (((below_trans HB0.out hb HB0.out.size).setCell (p := ⟨w.heap.size + 1, 0, none⟩) (by simp) (.slice A d.kept.length c)).setCell (p := ⟨w.heap.size + 1, 1, none⟩) (by simp) (.slice B d.w.length eb)).setCell (p := ⟨w.heap.size + 1, 2, none⟩) (by simp) (.bool d.off)
    exact ⟨_, rfl, HVV.out.below hbb, hbb⟩
  have HERR := Lib.hid err
  clear err
  by_cases hz : refusedD d.kept.length d.off at' = 0
  · have HREF0 : Hid (∀ W, Calls Try.prog 32 #[.agg #[.slice A d.kept.length c, .slice B d.w.length eb, .bool d.off], .int .i64 at'] W fun e w' => e = .returned (.int .i64 0) ∧ Below W.heap.size W w') := by rw [hz] at HREF; exact HREF
    by_cases h64 : 64 < s.length
    · have hw : writeD d at' s = (d, 5) := by unfold writeD; rw [if_neg (by simpa using hz), if_pos h64]
      rw [hw]
      clear hw hz HREF
      go_enter Try.func23, Try.ntmps23
      go_wp2_with fail
      rw [← HV0.out]
      refine (HREF0.out _).mono ?_
      rintro e w1 ⟨rfl, hb⟩
      have td := HD0.out.below hb
      have tr := HR0.out.below hb
      have c0 : w1.cell? ⟨w.heap.size, 0, none⟩ = some (.slice A d.kept.length c) := td.cell 0
      have c1 : w1.cell? ⟨w.heap.size, 1, none⟩ = some (.slice B d.w.length eb) := td.cell 1
      have c2 : w1.cell? ⟨w.heap.size, 2, none⟩ = some (.bool d.off) := td.cell 2
      have r0 : w1.cell? ⟨w.heap.size + 1, 0, none⟩ = some (.slice none 0 0) := tr.cell 0
      have r1 : w1.cell? ⟨w.heap.size + 1, 1, none⟩ = some (.slice none 0 0) := tr.cell 1
      have r2 : w1.cell? ⟨w.heap.size + 1, 2, none⟩ = some (.bool false) := tr.cell 2
      have f0 := tr.free 0
      have f1 := tr.free 1
      have f2 := tr.free 2
      have HB := Lib.hid hb
      clear td tr hb
      go_wp2_with fail
      refine bodyPost_ret (v := .tuple #[.agg #[.slice A d.kept.length c, .slice B d.w.length eb, .bool d.off], .int .i64 5]) (by simp [results, Try.results23, go_sem, r0, r1, r2]) rfl (HERR.out 5 w1 HB.out)
    · obtain ⟨hoff, hi0, hi1⟩ := refused_zero hz
      have hw : writeD d at' s = (⟨d.kept, d.w ++ [(at', padL s)], false⟩, 0) := by unfold writeD; rw [if_neg (by simpa using hz), if_neg h64]
      rw [hw]
      rw [hoff] at HV0 HD0 HREF0
      have hmb := hok.2.2.2
      have hplen : (padL s).length = 64 := padL_len s (by omega)
      have HPAD := Lib.hid (fun W => disk_pad s W (by omega))
      have hnew : (d.w ++ [(at', padL s)]).flatMap putC = d.w.flatMap putC ++ [.int .i64 at', strV (padL s)] := by rw [List.flatMap_append]; rfl
      have HNEW := Lib.hid hnew
      clear hw hz HREF HVV HERR hnew
      rw [hoff]
      go_enter Try.func23, Try.ntmps23
      go_wp2_with fail
      rw [← HV0.out]
      refine (HREF0.out _).mono ?_
      rintro e W1 ⟨rfl, hb1⟩
      have hmk := make_puts d.w.length hmb W1
      have td1 := HD0.out.below hb1
      have tr1 := HR0.out.below hb1
      have tg2 := TBox.new W1 56 (madeCells #[Value.int .i64 0, Value.string ByteArray.empty] ((d.w.length + 1) * 2))
      have hb12 : Below W1.heap.size W1 (W1.alloc (.cells (madeCells #[Value.int .i64 0, Value.string ByteArray.empty] ((d.w.length + 1) * 2)) 56)) := (Below.refl _ _).alloc (Nat.le_refl _) _
      obtain ⟨W2, hW2⟩ : ∃ W, W = W1.alloc (.cells (madeCells #[Value.int .i64 0, Value.string ByteArray.empty] ((d.w.length + 1) * 2)) 56) := ⟨_, rfl⟩
      rw [← hW2] at hmk tg2 hb12
      have td2 := td1.below hb12
      have tr2 := tr1.below hb12
      have hbw1 := below_trans HB0.out hb1 HB0.out.size
      have hbw2 := below_trans hbw1 hb12 hbw1.size
      have hp2 := HP.out.below hbw2
      obtain ⟨W3, hcp, hg3, hk3, hb23⟩ := copy_newk (P := Try.prog) 2 W2 23 23 3 56 W1.heap.size d.w.length (d.w.length + 1) (d.w.length + 1) (madeCells #[Value.int .i64 0, Value.string ByteArray.empty] ((d.w.length + 1) * 2)).toList 56 (.slice B d.w.length eb) (d.w.flatMap putC) rfl rfl (by rw [Array.toArray_toList]; exact tg2) (by rw [madeP_len]; omega) (by omega) hp2 (putC_one _)
      rw [made2] at hg3
      have hlt1 := tr1.lt
      have td3 : TBox W3 w.heap.size 25 #[.slice A d.kept.length c, .slice B d.w.length eb, .bool false] := (hk3 _ (by omega)).trans td2
      have tr3 : TBox W3 (w.heap.size + 1) 25 #[.slice none 0 0, .slice none 0 0, .bool false] := (hk3 _ (by omega)).trans tr2
      have hbw3 : Below w.heap.size w W3 := hbw2.trans (hb23.mono (by omega))
      have c1a : W1.cell? ⟨w.heap.size, 1, none⟩ = some (.slice B d.w.length eb) := td1.cell 1
      have c2a : W2.cell? ⟨w.heap.size, 1, none⟩ = some (.slice B d.w.length eb) := td2.cell 1
      have hcl : (d.w.flatMap putC).length = d.w.length * 2 := putC_len _
      have HH : Hid (((TBox W3 w.heap.size 25 #[.slice A d.kept.length c, .slice B d.w.length eb, .bool false] ∧ TBox W3 (w.heap.size + 1) 25 #[.slice none 0 0, .slice none 0 0, .bool false]) ∧
        (TBox W3 W1.heap.size 56 (d.w.flatMap putC ++ [Value.int .i64 0, Value.string ByteArray.empty]).toArray ∨ TBox W3 W1.heap.size 56 (d.w.flatMap putC ++ [Value.int .i64 at', strV (padL s)]).toArray)) ∧ Below w.heap.size w W3) := Lib.hid ⟨⟨⟨td3, tr3⟩, .inl hg3⟩, hbw3⟩
      have HLT := Lib.hid hlt1
      have HCL := Lib.hid hcl
      clear hW2 hb12 tg2 td1 tr1 td2 tr2 hbw1 hbw2 hp2 hg3 hk3 hb23 td3 tr3 hbw3 hb1 hlt1 hcl
      go_wp2_with fail
      refine wp_region_held_drew (S := fun V => ((TBox V w.heap.size 25 #[.slice A d.kept.length c, .slice B d.w.length eb, .bool false] ∧ TBox V (w.heap.size + 1) 25 #[.slice none 0 0, .slice none 0 0, .bool false]) ∧ (TBox V W1.heap.size 56 (d.w.flatMap putC ++ [Value.int .i64 0, Value.string ByteArray.empty]).toArray ∨ TBox V W1.heap.size 56 (d.w.flatMap putC ++ [Value.int .i64 at', strV (padL s)]).toArray)) ∧ Below w.heap.size w V) (by kernel_rfl) (⟨⟨⟨HH.out.1.1.1, HH.out.1.1.2⟩, HH.out.1.2⟩, below_dn HH.out.2 1⟩) (fun hHeld => ?_)
      refine wpAnyH_take (i := 0) (v := ?_) rfl (by kernel_rfl) (by kernel_rfl) (by kernel_rfl) (fun _ _ _ h => h) (Or.inl ⟨by rfl, ?_⟩) (by assumption) ?_
      rotate_left
      · intro X hSw
        go_simp
        try with_reducible rfl
      rotate_left
      try simp only [Act.put, List.setIfInBounds_toArray, List.set_cons_zero, List.set_cons_succ, List.getElem_toArray, List.getElem_cons_zero, List.getElem_cons_succ]
      refine wpAnyH_take (i := 1) (v := ?_) rfl (by kernel_rfl) (by kernel_rfl) (by kernel_rfl) (fun _ _ _ h => h) (Or.inl ⟨by rfl, ?_⟩) (by assumption) ?_
      rotate_left
      · intro X hSw
        go_simp
        try with_reducible rfl
      rotate_left
      try simp only [Act.put, List.setIfInBounds_toArray, List.set_cons_zero, List.set_cons_succ, List.getElem_toArray, List.getElem_cons_zero, List.getElem_cons_succ]
      refine wpAnyH_take (i := 2) (v := ?_) rfl (by kernel_rfl) (by kernel_rfl) (by kernel_rfl) (fun _ _ _ h => h) (Or.inl ⟨by rfl, ?_⟩) (by assumption) ?_
      rotate_left
      · intro X hSw
        have hc1 : X.cell? ⟨w.heap.size, 1, none⟩ = some (.slice B d.w.length eb) := hSw.1.1.1.cell 1
        go_simp
        try with_reducible rfl
      rotate_left
      try simp only [Act.put, List.setIfInBounds_toArray, List.set_cons_zero, List.set_cons_succ, List.getElem_toArray, List.getElem_cons_zero, List.getElem_cons_succ]
      refine wpAnyH_take (i := 3) (v := ?_) rfl (by kernel_rfl) (by kernel_rfl) (by kernel_rfl) (fun _ _ _ h => h) (Or.inl ⟨by rfl, ?_⟩) (by assumption) ?_
      rotate_left
      · intro X hSw
        go_simp
        try with_reducible rfl
      rotate_left
      try simp only [Act.put, List.setIfInBounds_toArray, List.set_cons_zero, List.set_cons_succ, List.getElem_toArray, List.getElem_cons_zero, List.getElem_cons_succ]
      refine wpAnyH_take (i := 4) (v := ?_) rfl (by kernel_rfl) (by kernel_rfl) (by kernel_rfl) (fun _ _ _ h => h) (Or.inl ⟨by rfl, ?_⟩) (by assumption) ?_
      rotate_left
      · intro X hSw
        go_simp
        try with_reducible rfl
      rotate_left
      try simp only [Act.put, List.setIfInBounds_toArray, List.set_cons_zero, List.set_cons_succ, List.getElem_toArray, List.getElem_cons_zero, List.getElem_cons_succ]
      refine wpAnyH_take (i := 5) (v := ?_) rfl (by kernel_rfl) (by kernel_rfl) (by kernel_rfl) (fun _ _ _ h => h) (Or.inl ⟨by rfl, ?_⟩) (by assumption) ?_
      rotate_left
      · intro X hSw
        go_simp
        try with_reducible rfl
      rotate_left
      try simp only [Act.put, List.setIfInBounds_toArray, List.set_cons_zero, List.set_cons_succ, List.getElem_toArray, List.getElem_cons_zero, List.getElem_cons_succ]
      refine wpAnyH_ready (rs := [6]) (by kernel_rfl) (by simp) ?_
      refine (AllReadyH.cons rfl (fun K hK => ?_) AllReadyH.nil)
      rw [if_pos (by rfl)]
      go_wp2_with fail
      refine (HPAD.out _).mono ?_
      rintro e wq ⟨rfl, hb⟩
      replace hHeld := show (((TBox wq w.heap.size 25 #[.slice A d.kept.length c, .slice B d.w.length eb, .bool false] ∧ TBox wq (w.heap.size + 1) 25 #[.slice none 0 0, .slice none 0 0, .bool false]) ∧ (TBox wq W1.heap.size 56 (d.w.flatMap putC ++ [Value.int .i64 0, Value.string ByteArray.empty]).toArray ∨ TBox wq W1.heap.size 56 (d.w.flatMap putC ++ [Value.int .i64 at', strV (padL s)]).toArray)) ∧ Below w.heap.size w wq) from ⟨⟨⟨hHeld.1.1.1.below hb, hHeld.1.1.2.below hb⟩, hHeld.1.2.imp (fun h => h.below hb) (fun h => h.below hb)⟩, below_trans hHeld.2 hb hHeld.2.size⟩
      clear hb
      refine hK.out _ _ hHeld (fun _ => ?_)
      clear hK K
      try simp only [Act.put, List.setIfInBounds_toArray, List.set_cons_zero, List.set_cons_succ, List.getElem_toArray, List.getElem_cons_zero, List.getElem_cons_succ]
      refine wpAnyH_take (i := 7) (v := ?_) rfl (by kernel_rfl) (by kernel_rfl) (by kernel_rfl) (fun _ _ _ h => h) (Or.inl ⟨by rfl, ?_⟩) (by assumption) ?_
      rotate_left
      · intro X hSw
        go_simp
        try with_reducible rfl
      rotate_left
      try simp only [Act.put, List.setIfInBounds_toArray, List.set_cons_zero, List.set_cons_succ, List.getElem_toArray, List.getElem_cons_zero, List.getElem_cons_succ]
      refine wpAnyH_take (i := 8) (v := ?_) rfl (by kernel_rfl) (by kernel_rfl) (by kernel_rfl) (fun _ _ _ h => h) (Or.inl ⟨by rfl, ?_⟩) (by assumption) ?_
      rotate_left
      · intro X hSw
        have hq : (d.w.length : Int) < (d.w.length : Int) + 1 := by omega
        go_simp
        try with_reducible rfl
      rotate_left
      try simp only [Act.put, List.setIfInBounds_toArray, List.set_cons_zero, List.set_cons_succ, List.getElem_toArray, List.getElem_cons_zero, List.getElem_cons_succ]
      refine wpAnyH_ready (rs := [9]) (by kernel_rfl) (by simp) ?_
      refine (AllReadyH.cons rfl (fun K hK => ?_) AllReadyH.nil)
      rw [if_pos (by rfl)]
      obtain ⟨u0, u1, hgc⟩ : ∃ u0 u1, TBox wq W1.heap.size 56 (d.w.flatMap putC ++ [u0, u1]).toArray := hHeld.1.2.elim (fun h => ⟨_, _, h⟩) (fun h => ⟨_, _, h⟩)
      have hg0 : wq.cell? ⟨W1.heap.size, d.w.length * 2, none⟩ = some u0 := by rw [hgc.cell, ← HCL.out]; simp
      have hg1 : wq.cell? ⟨W1.heap.size, d.w.length * 2 + 1, none⟩ = some u1 := by rw [hgc.cell, ← HCL.out]; simp
      have hf0 := hgc.free (d.w.length * 2)
      have hf1 := hgc.free (d.w.length * 2 + 1)
      have hst := (hgc.set (d.w.length * 2) (.int .i64 at')).set (d.w.length * 2 + 1) (strV (padL s))
      rw [List.setIfInBounds_toArray, List.setIfInBounds_toArray, ← HCL.out, List.set_append_right _ _ (Nat.le_refl _), List.set_append_right _ _ (by omega), Nat.sub_self, Nat.add_sub_cancel_left] at hst
      rw [HCL.out] at hst
      have HST := Lib.hid (show TBox ((wq.setCell ⟨W1.heap.size, d.w.length * 2, none⟩ (.int .i64 at')).setCell ⟨W1.heap.size, d.w.length * 2 + 1, none⟩ (.string ⟨(padL s).toArray⟩)) W1.heap.size 56 (d.w.flatMap putC ++ [Value.int .i64 at', strV (padL s)]).toArray from hst)
      have hll := HLT.out
      have HS4 := Lib.hid (show ((TBox ((wq.setCell ⟨W1.heap.size, d.w.length * 2, none⟩ (.int .i64 at')).setCell ⟨W1.heap.size, d.w.length * 2 + 1, none⟩ (.string ⟨(padL s).toArray⟩)) w.heap.size 25 #[.slice A d.kept.length c, .slice B d.w.length eb, .bool false] ∧ TBox ((wq.setCell ⟨W1.heap.size, d.w.length * 2, none⟩ (.int .i64 at')).setCell ⟨W1.heap.size, d.w.length * 2 + 1, none⟩ (.string ⟨(padL s).toArray⟩)) (w.heap.size + 1) 25 #[.slice none 0 0, .slice none 0 0, .bool false])) ∧ Below w.heap.size w ((wq.setCell ⟨W1.heap.size, d.w.length * 2, none⟩ (.int .i64 at')).setCell ⟨W1.heap.size, d.w.length * 2 + 1, none⟩ (.string ⟨(padL s).toArray⟩)) from
        ⟨⟨(hHeld.1.1.1.far _ _ _ (by omega)).far _ _ _ (by omega), (hHeld.1.1.2.far _ _ _ (by omega)).far _ _ _ (by omega)⟩, (hHeld.2.setCell (p := ⟨W1.heap.size, d.w.length * 2, none⟩) (by simp; omega) _).setCell (p := ⟨W1.heap.size, d.w.length * 2 + 1, none⟩) (by simp; omega) _⟩)
      clear hst hgc
      go_wp2_with fail
      generalize (wq.setCell ⟨W1.heap.size, d.w.length * 2, none⟩ (.int .i64 at')).setCell ⟨W1.heap.size, d.w.length * 2 + 1, none⟩ (.string ⟨(padL s).toArray⟩) = W5 at *
      clear hHeld
      have hHeld := And.intro (And.intro HS4.out.1 (Or.inr (a := TBox W5 W1.heap.size 56 (d.w.flatMap putC ++ [Value.int .i64 0, Value.string ByteArray.empty]).toArray) HST.out)) HS4.out.2
      refine hK.out _ _ hHeld (fun _ => ?_)
      clear hK K
      try simp only [Act.put, List.setIfInBounds_toArray, List.set_cons_zero, List.set_cons_succ, List.getElem_toArray, List.getElem_cons_zero, List.getElem_cons_succ]
      refine wpAnyH_done (by kernel_rfl) ?_ _
      have c0 : W5.cell? ⟨w.heap.size, 0, none⟩ = some (.slice A d.kept.length c) := hHeld.1.1.1.cell 0
      have r0 : W5.cell? ⟨w.heap.size + 1, 0, none⟩ = some (.slice none 0 0) := hHeld.1.1.2.cell 0
      have r1 : W5.cell? ⟨w.heap.size + 1, 1, none⟩ = some (.slice none 0 0) := hHeld.1.1.2.cell 1
      have r2 : W5.cell? ⟨w.heap.size + 1, 2, none⟩ = some (.bool false) := hHeld.1.1.2.cell 2
      have f0 := hHeld.1.1.2.free 0
      have f1 := hHeld.1.1.2.free 1
      have f2 := hHeld.1.1.2.free 2
      have HBW := Lib.hid hHeld.2
      clear hHeld
      go_wp2_with fail
      have hbb := ((HBW.out.setCell (p := ⟨w.heap.size + 1, 0, none⟩) (by simp) (.slice A d.kept.length c)).setCell (p := ⟨w.heap.size + 1, 1, none⟩) (by simp) (.slice (some ⟨W1.heap.size, 0, none⟩) (d.w.length + 1) (d.w.length + 1))).setCell (p := ⟨w.heap.size + 1, 2, none⟩) (by simp) (.bool false)
      have hg := ((HST.out.far (w.heap.size + 1) 0 (.slice A d.kept.length c) (by have := HLT.out; omega)).far (w.heap.size + 1) 1 (.slice (some ⟨W1.heap.size, 0, none⟩) (d.w.length + 1) (d.w.length + 1)) (by have := HLT.out; omega)).far (w.heap.size + 1) 2 (.bool false) (by have := HLT.out; omega)
      refine bodyPost_ret (v := .tuple #[.agg #[.slice A d.kept.length c, .slice (some ⟨W1.heap.size, 0, none⟩) (d.w.length + 1) (d.w.length + 1), .bool false], .int .i64 0]) (by simp [results, Try.results23, go_sem, r0, r1, r2]) rfl ⟨_, rfl, ⟨A, c, some ⟨W1.heap.size, 0, none⟩, d.w.length + 1, by simp, HK.out.below hbb, ?_⟩, hbb⟩
      unfold Puts
      rw [HNEW.out]
      refine ⟨some ⟨W1.heap.size, 0, none⟩, d.w.length + 1, by simp, by simp, by rw [List.length_append, List.length_append, putC_len]; simp only [List.length_cons, List.length_nil]; omega, fun _ => ⟨W1.heap.size, 0, rfl, hg.lt, fun j x hx => ?_⟩⟩
      rw [Nat.zero_add, hg.cell]
      simpa using hx
  · have hw : writeD d at' s = (d, refusedD d.kept.length d.off at') := by unfold writeD; rw [if_pos hz]
    rw [hw]
    have hne : (refusedD d.kept.length d.off at' != 0) = true := by simpa using hz
    generalize refusedD d.kept.length d.off at' = r at *
    clear hw hz
    go_enter Try.func23, Try.ntmps23
    go_wp2_with fail
    rw [← HV0.out]
    refine (HREF.out _).mono ?_
    rintro e w1 ⟨rfl, hb⟩
    have td := HD0.out.below hb
    have tr := HR0.out.below hb
    have c0 : w1.cell? ⟨w.heap.size, 0, none⟩ = some (.slice A d.kept.length c) := td.cell 0
    have c1 : w1.cell? ⟨w.heap.size, 1, none⟩ = some (.slice B d.w.length eb) := td.cell 1
    have c2 : w1.cell? ⟨w.heap.size, 2, none⟩ = some (.bool d.off) := td.cell 2
    have r0 : w1.cell? ⟨w.heap.size + 1, 0, none⟩ = some (.slice none 0 0) := tr.cell 0
    have r1 : w1.cell? ⟨w.heap.size + 1, 1, none⟩ = some (.slice none 0 0) := tr.cell 1
    have r2 : w1.cell? ⟨w.heap.size + 1, 2, none⟩ = some (.bool false) := tr.cell 2
    have f0 := tr.free 0
    have f1 := tr.free 1
    have f2 := tr.free 2
    have HB := Lib.hid hb
    clear td tr hb
    go_wp2_with fail
    refine bodyPost_ret (v := .tuple #[.agg #[.slice A d.kept.length c, .slice B d.w.length eb, .bool d.off], .int .i64 r]) (by simp [results, Try.results23, go_sem, r0, r1, r2]) rfl (HERR.out r w1 HB.out)
end Go.Proofs.Ytahnkkmngbckdaa
