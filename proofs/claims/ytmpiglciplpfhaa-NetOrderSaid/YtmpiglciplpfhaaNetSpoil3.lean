/- net.Spoil: they answer as the document says; old memory is as it was. -/
import Derived.Test.YtmpiglciplpfhaaNetSpoil2
import Derived.Lib.ConvBytes
import Derived.Laws.BitsAllLaws
set_option linter.unusedVariables false
namespace Go.Proofs.Ytmpiglciplpfhaa
open Go.RowKit Copyhold
attribute [local go_sem] piece


set_option maxHeartbeats 4000000 in
theorem net_Spoil_ok (D : Nat → Prop) (n : NetD) (up : Bool) (i : Nat) (at' : Nat) (y : UInt8) (s : List UInt8) (v : Value) (w : World) (hn : IsNet D w v n) (hD : ∀ b, D b → b < w.heap.size) (h1 : n.1.length ≤ 8796093022208) (h2 : n.2.length ≤ 8796093022208)
    (hi : (rowN n up)[i]? = some s) (hsl : s.length ≤ 140737488355328) (hat : at' < s.length) :
    Calls Try.prog 10 #[v, .bool up, .int .i64 i, .int .i64 at', .int .u8 (y.toNat : Int)] w (RetB D w (setN n up ((rowN n up).set i (spoilB s at' y))) true) := by
  obtain ⟨A, c, B, d, rfl, hu, hd, hat1, hat2⟩ := hn
  have HI := Lib.hid hi
  have hil := (List.getElem?_eq_some_iff.1 hi).1
  have HU := Lib.hid hu
  have HD := Lib.hid hd
  have HA1 := Lib.hid hat1
  have HA2 := Lib.hid hat2
  have HDD := Lib.hid hD
  have hbyte : s[at'].toNat < 256 := s[at'].toNat_lt
  have hx : bits BinOp.xor IntKind.u8 (s[at'].toNat : Int) (y.toNat : Int) = ((s[at'] ^^^ y).toNat : Int) := by
    rw [UInt8.toNat_xor]; exact u8_xor_nat _ _ s[at'].toNat_lt y.toNat_lt
  have hsp : spoilB s at' y = s.set at' (s[at'] ^^^ y) := by unfold spoilB; rw [List.getD_eq_getElem?_getD, List.getElem?_eq_getElem hat, Option.getD_some]
  rw [hsp]
  have hbl : (s[at'] ^^^ y).toNat < 256 := (s[at'] ^^^ y).toNat_lt
  obtain ⟨x, hxe⟩ : ∃ x, x = s[at'] := ⟨_, rfl⟩
  obtain ⟨z, hze⟩ : ∃ z, z = x ^^^ y := ⟨_, rfl⟩
  rw [← hxe, ← hze] at hx hbl ⊢
  rw [← hxe] at hbyte
  have HX := Lib.hid hxe
  clear hu hd hat1 hat2 hi hD hsp hxe hze
  cases up
  · simp only [rowN, Bool.false_eq_true, if_false] at HI hil ⊢
    have hb0 : Below w.heap.size w (((w.alloc (.cells #[.slice A n.1.length c, .slice B n.2.length d] 24)).alloc (.cells #[.int .i64 i] 3)).alloc (.cells #[.slice none 0 0, .slice none 0 0] 24)) := (((Below.refl _ _).alloc (Nat.le_refl _) _).alloc (by simp) _).alloc (by simp <;> omega) _
    have hbx : ∀ o : Obj, Below w.heap.size w (((((w.alloc (.cells #[.slice A n.1.length c, .slice B n.2.length d] 24)).alloc (.cells #[.int .i64 i] 3)).alloc (.cells #[.slice none 0 0, .slice none 0 0] 24))).alloc o) := fun o => hb0.alloc (by simp <;> omega) o
    have HRX := Lib.hid (fun o : Obj => HD.out.below (hbx o).drew)
    clear hb0 hbx
    go_enter Try.func10, Try.ntmps10
    go_wp2_with fail
    go_region_with (first | (go_at_call 18; refine (net_row_at false A B n.1.length n.2.length c d _).mono ?_; rintro e w1 ⟨rfl, rfl⟩; simp only [pickV, Bool.false_eq_true, if_false]) | (go_at_call 17; refine (find_ok B n.2.length d n.2 i s _ (HRX.out _) HI.out (by omega)).mono ?_; rintro e w1 ⟨rfl, rfl⟩))
    all_goals
      obtain ⟨W1, hW1⟩ : ∃ W1, W1 = ((((w.alloc (.cells #[.slice A n.1.length c, .slice B n.2.length d] 24)).alloc (.cells #[.int .i64 i] 3)).alloc (.cells #[.slice none 0 0, .slice none 0 0] 24)).alloc (.cells #[.slice A n.1.length c, .slice B n.2.length d] 24)).drew := ⟨_, rfl⟩
      have hs1 : W1.heap.size = w.heap.size + 4 := by rw [hW1]; simp
      have hb1 : Below w.heap.size w W1 := by rw [hW1]; exact ((((Below.refl _ _).alloc (Nat.le_refl _) _).alloc (by simp <;> omega) _).alloc (by simp <;> omega) _).alloc (by simp <;> omega) _ |>.drew
      have hA : W1.cell? ⟨w.heap.size, 0, none⟩ = some (.slice A n.1.length c) := by rw [hW1]; simp [go_sem]
      have hB : W1.cell? ⟨w.heap.size, 1, none⟩ = some (.slice B n.2.length d) := by rw [hW1]; simp [go_sem]
      have hI : W1.cell? ⟨w.heap.size + 1, 0, none⟩ = some (.int .i64 i) := by rw [hW1]; simp [go_sem]
      have hr0 : W1.cell? ⟨w.heap.size + 2, 0, none⟩ = some (.slice none 0 0) := by rw [hW1]; simp [go_sem]
      have hr1 : W1.cell? ⟨w.heap.size + 2, 1, none⟩ = some (.slice none 0 0) := by rw [hW1]; simp [go_sem]
      have hz0 : W1.frozen? ⟨w.heap.size + 2, 0, none⟩ = false := by rw [hW1]; simp [go_sem]
      have hz1 : W1.frozen? ⟨w.heap.size + 2, 1, none⟩ = false := by rw [hW1]; simp [go_sem]
      have hcv := Lib.run_convert_string_bytes (P := Try.prog) W1 9 49 5 ⟨s.toArray⟩ Try.underlying9 Try.underlying49 Try.underlying5
      have hsz : (⟨s.toArray⟩ : ByteArray).size = s.length := by simp [ByteArray.size]
      rw [hsz] at hcv
      have hb2 := bytes_below W1 5 ⟨s.toArray⟩
      have hs2 := Lib.bytesWorld_size W1 5 ⟨s.toArray⟩
      have HCELL := Lib.hid (bytes_cell W1 5 s)
      have HFREE := Lib.hid (bytes_free W1 5 s)
      try rw [← hW1]
      generalize Lib.bytesWorld W1 5 ⟨s.toArray⟩ = W2 at *
      generalize grownCap W1 s.length 0 5 = cap at *
      obtain ⟨hc2, hf2⟩ := bcell hb2
      have HB2 := Lib.hid (hb1.trans (hb2.mono hb1.size))
      rw [hs1] at hs2 hc2 hf2 hcv HCELL HFREE
      clear hb1 hb2 hW1 hs1 hsz
      have hck : W2.cell? ⟨w.heap.size + 4, at', none⟩ = some (.int .u8 (x.toNat : Int)) := by rw [HX.out]; exact HCELL.out at' hat
      have hfk : W2.frozen? ⟨w.heap.size + 4, at', none⟩ = false := HFREE.out at' hat
      obtain ⟨W4, hW4⟩ : ∃ W4, W4 = W2.alloc (.cells #[.slice (some ⟨w.heap.size + 4, 0, none⟩) s.length cap] 49) := ⟨_, rfl⟩
      have hck0 : W4.cell? ⟨w.heap.size + 4, 0 + at', none⟩ = some (.int .u8 (x.toNat : Int)) := by
        rw [hW4, Nat.zero_add, World.cell?_alloc_lt _ _ _ (by simp [hs2])]; exact hck
      have HCK := Lib.hid hck0
      obtain ⟨W3, hW3⟩ : ∃ W3, W3 = (W2.setCell ⟨w.heap.size + 4, at', none⟩ (.int .u8 (z.toNat : Int))).alloc (.cells #[.slice (some ⟨w.heap.size + 4, 0, none⟩) s.length cap] 49) := ⟨_, rfl⟩
      have hs4 : W4.heap.size = w.heap.size + 6 := by rw [hW4]; simp [hs2]
      have hs3 : W3.heap.size = w.heap.size + 6 := by rw [hW3]; simp [hs2]
      have hb3 : Below w.heap.size w W3 := by rw [hW3]; exact (HB2.out.setCell (by simp <;> omega) _).alloc (by simp [hs2] <;> omega) _
      have hfar : ∀ k, k < w.heap.size + 4 → W3.heap[k]? = W2.heap[k]? := fun k hk => by
        rw [hW3, Below.heap_alloc _ _ _ (by simp [hs2]; omega), heap_setCell_far _ _ _ _ (by simp; omega)]
      have hcI : W3.cell? ⟨w.heap.size + 1, 0, none⟩ = some (.int .i64 i) := by rw [World.cell?_of_block (hfar _ (by simp)), hc2 _ _ (by omega)]; exact hI
      have hcS : W3.cell? ⟨w.heap.size + 4 + 1, 0, none⟩ = some (.slice (some ⟨w.heap.size + 4, 0, none⟩) s.length cap) := by
        rw [hW3]
        simp [go_sem, hs2]
      have hcB : ∀ j, j < (s.set at' z).length → W3.cell? ⟨w.heap.size + 4, j, none⟩ = some (.int .u8 (((s.set at' z).getD j 0).toNat : Int)) := by
        intro j hj
        rw [List.length_set] at hj
        by_cases hkj : at' = j
        · subst hkj
          rw [hW3, World.cell?_alloc_lt _ _ _ (by simp [hs2]), World.cell?_setCell_same _ _ _ hck]
          simp [List.getD, hj]
        · rw [hW3, World.cell?_alloc_lt _ _ _ (by simp [hs2]), World.cell?_setCell_other _ _ _ _ (by intro h; simp at h <;> omega), HCELL.out j hj]
          simp [List.getD, hj, List.getElem_set_ne hkj]
      have hr0' : W3.cell? ⟨w.heap.size + 2, 0, none⟩ = some (.slice none 0 0) := by rw [World.cell?_of_block (hfar _ (by simp)), hc2 _ _ (by omega)]; exact hr0
      have hr1' : W3.cell? ⟨w.heap.size + 2, 1, none⟩ = some (.slice none 0 0) := by rw [World.cell?_of_block (hfar _ (by simp)), hc2 _ _ (by omega)]; exact hr1
      have hz0' : W3.frozen? ⟨w.heap.size + 2, 0, none⟩ = false := by rw [World.frozen?_of_block (hfar _ (by simp)), hf2 _ _ (by omega)]; exact hz0
      have hz1' : W3.frozen? ⟨w.heap.size + 2, 1, none⟩ = false := by rw [World.frozen?_of_block (hfar _ (by simp)), hf2 _ _ (by omega)]; exact hz1
      have HW4 := Lib.hid hW4
      have HW3 := Lib.hid hW3
      have HS3 := Lib.hid hs3
      have HB3 := Lib.hid hb3
      have HCI := Lib.hid hcI
      have HCS := Lib.hid hcS
      have HCB := Lib.hid hcB
      have HR0 := Lib.hid (And.intro hr0' (And.intro hr1' (And.intro hz0' hz1')))
      clear hck0 hW4 hW3 hs4 hs3 hb3 hfar hcI hcS hcB hr0' hr1' hz0' hz1'
      go_wp2_with fail
      rw [← HW4.out]
      refine (bfind_ok _ s.length cap at' _ _ hat (by omega) HCK.out).mono ?_
      rintro e w1 ⟨rfl, rfl⟩
      rw [HW4.out]
      go_wp2_with fail
      rw [← HW3.out]
      have hcall := net_turned false A B n.1.length n.2.length c d (n.1.map strV) (n.2.map strV) ((n.2.set i (s.set at' z)).map strV) 22 #[.pointer (some ⟨w.heap.size + 4 + 1, 0, none⟩), .pointer (some ⟨w.heap.size + 1, 0, none⟩)] W3 eg_spoil (HU.out.below HB3.out) (HD.out.below HB3.out)
        (fun u hu => by rw [← List.map_append] at hu; obtain ⟨l, _, rfl⟩ := List.mem_map.1 hu; rfl) (by rw [List.length_map]; exact h1) (by rw [List.length_map]; exact h2)
        (fun W g hbW hg hh => by
          have hcell : W.cell? ⟨w.heap.size + 1, 0, none⟩ = some (.int .i64 i) := (hbW.cell (p := ⟨w.heap.size + 1, 0, none⟩) (by rw [HS3.out]; simp)).trans HCI.out
          have hcell5 : W.cell? ⟨w.heap.size + 4 + 1, 0, none⟩ = some (.slice (some ⟨w.heap.size + 4, 0, none⟩) (s.set at' z).length cap) := by rw [List.length_set]; exact (hbW.cell (p := ⟨w.heap.size + 4 + 1, 0, none⟩) (by rw [HS3.out]; simp)).trans HCS.out
          have h := spoil_turn W g (w.heap.size + 4 + 1) (w.heap.size + 1) (w.heap.size + 4) cap (n.2.map strV) i (s.set at' z) hh (by rw [List.length_map]; omega) (by rw [List.length_map]; omega) hcell5 (fun j hj => (hbW.cell (p := ⟨w.heap.size + 4, j, none⟩) (by rw [HS3.out]; simp)).trans (HCB.out j hj)) hcell
          rw [← List.map_set] at h
          exact h)
      refine hcall.mono ?_
      intro e w2 hret
      obtain ⟨v, rfl, hnet, hb2⟩ := turned_net (HU.out.below HB3.out) (HD.out.below HB3.out) HA1.out HA2.out hret
      clear hcall hret hc2 hf2 hr0 hr1 hz0 hz1 hA hB hI hck hfk hcv hx hs2
      obtain ⟨A', c', B', d', rfl, q1, q2, q3, q4⟩ := id hnet
      obtain ⟨hc2, hf2⟩ := bcell hb2
      rw [HS3.out] at hc2 hf2
      have HN := Lib.hid hnet
      have HBB := Lib.hid hb2
      obtain ⟨hr0, hr1, hz0, hz1⟩ := HR0.out
      clear q1 q2 q3 q4 hnet hb2
      go_wp2_with fail
      refine bodyPost_ret (v := .tuple #[.agg #[.slice A' (setN n false (n.2.set i (s.set at' z))).1.length c', .slice B' (setN n false (n.2.set i (s.set at' z))).2.length d'], .bool true]) (by simp [results, Try.results10, go_sem, hc2, hr0, hr1]) rfl ⟨_, rfl, ?_, ?_⟩
      · refine HN.out.frame (fun b hb hl => ?_) (by simp) (fun b hb => ?_)
        · rw [heap_setCell_far _ _ _ _ ?_, heap_setCell_far _ _ _ _ ?_]
          all_goals
            rcases hb with hb | hb
            · have := HDD.out b hb; simp; omega
            · have := HS3.out; simp; omega
        · rcases hb with hb | hb
          · exact .inl hb
          · exact .inr (by have := HS3.out; omega)
      · exact ((HB3.out.trans (HBB.out.mono HB3.out.size)).setCell (by simp <;> omega) _).setCell (by simp <;> omega) _
  · simp only [rowN, if_true] at HI hil ⊢
    have hb0 : Below w.heap.size w (((w.alloc (.cells #[.slice A n.1.length c, .slice B n.2.length d] 24)).alloc (.cells #[.int .i64 i] 3)).alloc (.cells #[.slice none 0 0, .slice none 0 0] 24)) := (((Below.refl _ _).alloc (Nat.le_refl _) _).alloc (by simp) _).alloc (by simp <;> omega) _
    have hbx : ∀ o : Obj, Below w.heap.size w (((((w.alloc (.cells #[.slice A n.1.length c, .slice B n.2.length d] 24)).alloc (.cells #[.int .i64 i] 3)).alloc (.cells #[.slice none 0 0, .slice none 0 0] 24))).alloc o) := fun o => hb0.alloc (by simp <;> omega) o
    have HRX := Lib.hid (fun o : Obj => HU.out.below (hbx o).drew)
    clear hb0 hbx
    go_enter Try.func10, Try.ntmps10
    go_wp2_with fail
    go_region_with (first | (go_at_call 18; refine (net_row_at true A B n.1.length n.2.length c d _).mono ?_; rintro e w1 ⟨rfl, rfl⟩; simp only [pickV, if_true]) | (go_at_call 17; refine (find_ok A n.1.length c n.1 i s _ (HRX.out _) HI.out (by omega)).mono ?_; rintro e w1 ⟨rfl, rfl⟩))
    all_goals
      obtain ⟨W1, hW1⟩ : ∃ W1, W1 = ((((w.alloc (.cells #[.slice A n.1.length c, .slice B n.2.length d] 24)).alloc (.cells #[.int .i64 i] 3)).alloc (.cells #[.slice none 0 0, .slice none 0 0] 24)).alloc (.cells #[.slice A n.1.length c, .slice B n.2.length d] 24)).drew := ⟨_, rfl⟩
      have hs1 : W1.heap.size = w.heap.size + 4 := by rw [hW1]; simp
      have hb1 : Below w.heap.size w W1 := by rw [hW1]; exact ((((Below.refl _ _).alloc (Nat.le_refl _) _).alloc (by simp <;> omega) _).alloc (by simp <;> omega) _).alloc (by simp <;> omega) _ |>.drew
      have hA : W1.cell? ⟨w.heap.size, 0, none⟩ = some (.slice A n.1.length c) := by rw [hW1]; simp [go_sem]
      have hB : W1.cell? ⟨w.heap.size, 1, none⟩ = some (.slice B n.2.length d) := by rw [hW1]; simp [go_sem]
      have hI : W1.cell? ⟨w.heap.size + 1, 0, none⟩ = some (.int .i64 i) := by rw [hW1]; simp [go_sem]
      have hr0 : W1.cell? ⟨w.heap.size + 2, 0, none⟩ = some (.slice none 0 0) := by rw [hW1]; simp [go_sem]
      have hr1 : W1.cell? ⟨w.heap.size + 2, 1, none⟩ = some (.slice none 0 0) := by rw [hW1]; simp [go_sem]
      have hz0 : W1.frozen? ⟨w.heap.size + 2, 0, none⟩ = false := by rw [hW1]; simp [go_sem]
      have hz1 : W1.frozen? ⟨w.heap.size + 2, 1, none⟩ = false := by rw [hW1]; simp [go_sem]
      have hcv := Lib.run_convert_string_bytes (P := Try.prog) W1 9 49 5 ⟨s.toArray⟩ Try.underlying9 Try.underlying49 Try.underlying5
      have hsz : (⟨s.toArray⟩ : ByteArray).size = s.length := by simp [ByteArray.size]
      rw [hsz] at hcv
      have hb2 := bytes_below W1 5 ⟨s.toArray⟩
      have hs2 := Lib.bytesWorld_size W1 5 ⟨s.toArray⟩
      have HCELL := Lib.hid (bytes_cell W1 5 s)
      have HFREE := Lib.hid (bytes_free W1 5 s)
      try rw [← hW1]
      generalize Lib.bytesWorld W1 5 ⟨s.toArray⟩ = W2 at *
      generalize grownCap W1 s.length 0 5 = cap at *
      obtain ⟨hc2, hf2⟩ := bcell hb2
      have HB2 := Lib.hid (hb1.trans (hb2.mono hb1.size))
      rw [hs1] at hs2 hc2 hf2 hcv HCELL HFREE
      clear hb1 hb2 hW1 hs1 hsz
      have hck : W2.cell? ⟨w.heap.size + 4, at', none⟩ = some (.int .u8 (x.toNat : Int)) := by rw [HX.out]; exact HCELL.out at' hat
      have hfk : W2.frozen? ⟨w.heap.size + 4, at', none⟩ = false := HFREE.out at' hat
      obtain ⟨W4, hW4⟩ : ∃ W4, W4 = W2.alloc (.cells #[.slice (some ⟨w.heap.size + 4, 0, none⟩) s.length cap] 49) := ⟨_, rfl⟩
      have hck0 : W4.cell? ⟨w.heap.size + 4, 0 + at', none⟩ = some (.int .u8 (x.toNat : Int)) := by
        rw [hW4, Nat.zero_add, World.cell?_alloc_lt _ _ _ (by simp [hs2])]; exact hck
      have HCK := Lib.hid hck0
      obtain ⟨W3, hW3⟩ : ∃ W3, W3 = (W2.setCell ⟨w.heap.size + 4, at', none⟩ (.int .u8 (z.toNat : Int))).alloc (.cells #[.slice (some ⟨w.heap.size + 4, 0, none⟩) s.length cap] 49) := ⟨_, rfl⟩
      have hs4 : W4.heap.size = w.heap.size + 6 := by rw [hW4]; simp [hs2]
      have hs3 : W3.heap.size = w.heap.size + 6 := by rw [hW3]; simp [hs2]
      have hb3 : Below w.heap.size w W3 := by rw [hW3]; exact (HB2.out.setCell (by simp <;> omega) _).alloc (by simp [hs2] <;> omega) _
      have hfar : ∀ k, k < w.heap.size + 4 → W3.heap[k]? = W2.heap[k]? := fun k hk => by
        rw [hW3, Below.heap_alloc _ _ _ (by simp [hs2]; omega), heap_setCell_far _ _ _ _ (by simp; omega)]
      have hcI : W3.cell? ⟨w.heap.size + 1, 0, none⟩ = some (.int .i64 i) := by rw [World.cell?_of_block (hfar _ (by simp)), hc2 _ _ (by omega)]; exact hI
      have hcS : W3.cell? ⟨w.heap.size + 4 + 1, 0, none⟩ = some (.slice (some ⟨w.heap.size + 4, 0, none⟩) s.length cap) := by
        rw [hW3]
        simp [go_sem, hs2]
      have hcB : ∀ j, j < (s.set at' z).length → W3.cell? ⟨w.heap.size + 4, j, none⟩ = some (.int .u8 (((s.set at' z).getD j 0).toNat : Int)) := by
        intro j hj
        rw [List.length_set] at hj
        by_cases hkj : at' = j
        · subst hkj
          rw [hW3, World.cell?_alloc_lt _ _ _ (by simp [hs2]), World.cell?_setCell_same _ _ _ hck]
          simp [List.getD, hj]
        · rw [hW3, World.cell?_alloc_lt _ _ _ (by simp [hs2]), World.cell?_setCell_other _ _ _ _ (by intro h; simp at h <;> omega), HCELL.out j hj]
          simp [List.getD, hj, List.getElem_set_ne hkj]
      have hr0' : W3.cell? ⟨w.heap.size + 2, 0, none⟩ = some (.slice none 0 0) := by rw [World.cell?_of_block (hfar _ (by simp)), hc2 _ _ (by omega)]; exact hr0
      have hr1' : W3.cell? ⟨w.heap.size + 2, 1, none⟩ = some (.slice none 0 0) := by rw [World.cell?_of_block (hfar _ (by simp)), hc2 _ _ (by omega)]; exact hr1
      have hz0' : W3.frozen? ⟨w.heap.size + 2, 0, none⟩ = false := by rw [World.frozen?_of_block (hfar _ (by simp)), hf2 _ _ (by omega)]; exact hz0
      have hz1' : W3.frozen? ⟨w.heap.size + 2, 1, none⟩ = false := by rw [World.frozen?_of_block (hfar _ (by simp)), hf2 _ _ (by omega)]; exact hz1
      have HW4 := Lib.hid hW4
      have HW3 := Lib.hid hW3
      have HS3 := Lib.hid hs3
      have HB3 := Lib.hid hb3
      have HCI := Lib.hid hcI
      have HCS := Lib.hid hcS
      have HCB := Lib.hid hcB
      have HR0 := Lib.hid (And.intro hr0' (And.intro hr1' (And.intro hz0' hz1')))
      clear hck0 hW4 hW3 hs4 hs3 hb3 hfar hcI hcS hcB hr0' hr1' hz0' hz1'
      go_wp2_with fail
      rw [← HW4.out]
      refine (bfind_ok _ s.length cap at' _ _ hat (by omega) HCK.out).mono ?_
      rintro e w1 ⟨rfl, rfl⟩
      rw [HW4.out]
      go_wp2_with fail
      rw [← HW3.out]
      have hcall := net_turned true A B n.1.length n.2.length c d (n.1.map strV) (n.2.map strV) ((n.1.set i (s.set at' z)).map strV) 22 #[.pointer (some ⟨w.heap.size + 4 + 1, 0, none⟩), .pointer (some ⟨w.heap.size + 1, 0, none⟩)] W3 eg_spoil (HU.out.below HB3.out) (HD.out.below HB3.out)
        (fun u hu => by rw [← List.map_append] at hu; obtain ⟨l, _, rfl⟩ := List.mem_map.1 hu; rfl) (by rw [List.length_map]; exact h1) (by rw [List.length_map]; exact h2)
        (fun W g hbW hg hh => by
          have hcell : W.cell? ⟨w.heap.size + 1, 0, none⟩ = some (.int .i64 i) := (hbW.cell (p := ⟨w.heap.size + 1, 0, none⟩) (by rw [HS3.out]; simp)).trans HCI.out
          have hcell5 : W.cell? ⟨w.heap.size + 4 + 1, 0, none⟩ = some (.slice (some ⟨w.heap.size + 4, 0, none⟩) (s.set at' z).length cap) := by rw [List.length_set]; exact (hbW.cell (p := ⟨w.heap.size + 4 + 1, 0, none⟩) (by rw [HS3.out]; simp)).trans HCS.out
          have h := spoil_turn W g (w.heap.size + 4 + 1) (w.heap.size + 1) (w.heap.size + 4) cap (n.1.map strV) i (s.set at' z) hh (by rw [List.length_map]; omega) (by rw [List.length_map]; omega) hcell5 (fun j hj => (hbW.cell (p := ⟨w.heap.size + 4, j, none⟩) (by rw [HS3.out]; simp)).trans (HCB.out j hj)) hcell
          rw [← List.map_set] at h
          exact h)
      refine hcall.mono ?_
      intro e w2 hret
      obtain ⟨v, rfl, hnet, hb2⟩ := turned_net (HU.out.below HB3.out) (HD.out.below HB3.out) HA1.out HA2.out hret
      clear hcall hret hc2 hf2 hr0 hr1 hz0 hz1 hA hB hI hck hfk hcv hx hs2
      obtain ⟨A', c', B', d', rfl, q1, q2, q3, q4⟩ := id hnet
      obtain ⟨hc2, hf2⟩ := bcell hb2
      rw [HS3.out] at hc2 hf2
      have HN := Lib.hid hnet
      have HBB := Lib.hid hb2
      obtain ⟨hr0, hr1, hz0, hz1⟩ := HR0.out
      clear q1 q2 q3 q4 hnet hb2
      go_wp2_with fail
      refine bodyPost_ret (v := .tuple #[.agg #[.slice A' (setN n true (n.1.set i (s.set at' z))).1.length c', .slice B' (setN n true (n.1.set i (s.set at' z))).2.length d'], .bool true]) (by simp [results, Try.results10, go_sem, hc2, hr0, hr1]) rfl ⟨_, rfl, ?_, ?_⟩
      · refine HN.out.frame (fun b hb hl => ?_) (by simp) (fun b hb => ?_)
        · rw [heap_setCell_far _ _ _ _ ?_, heap_setCell_far _ _ _ _ ?_]
          all_goals
            rcases hb with hb | hb
            · have := HDD.out b hb; simp; omega
            · have := HS3.out; simp; omega
        · rcases hb with hb | hb
          · exact .inl hb
          · exact .inr (by have := HS3.out; omega)
      · exact ((HB3.out.trans (HBB.out.mono HB3.out.size)).setCell (by simp <;> omega) _).setCell (by simp <;> omega) _
end Go.Proofs.Ytmpiglciplpfhaa
