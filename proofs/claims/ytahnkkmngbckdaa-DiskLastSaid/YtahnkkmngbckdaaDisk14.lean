/- copyholdlaw04.shown, few: they answer as the document says; old memory is as it was. -/
import Derived.Test.YtahnkkmngbckdaaDisk13
import Derived.Test.YtahnkkmngbckdaaLaw
set_option linter.unusedVariables false
set_option linter.unusedSimpArgs false
namespace Copyhold.Disk
open Go Go.RowKit
theorem DiskV.opn {w : World} {v : Value} {d : DiskW} {n m : Nat} (h : DiskV w v d) (hn : d.kept.length = n) (hm : d.w.length = m) : ∃ A c B e, v = .agg #[.slice A n c, .slice B m e, .bool d.off] := by
  obtain ⟨A, c, B, e, rfl, _, _⟩ := h
  exact ⟨A, c, B, e, by rw [hn, hm]⟩
/-- a disk's rows don't lie in a disk's box -/
theorem DiskV.set3 {w : World} {B : Nat} {T : TypeId} {v : Value} {d : DiskW} {A1 B1 : Option Addr} {n1 c1 m1 e1 : Nat} {o1 : Bool} (t : TBox w B T #[.slice A1 n1 c1, .slice B1 m1 e1, .bool o1]) (h : DiskV w v d) (u0 u1 u2 : Value) :
    DiskV (((w.setCell ⟨B, 0, none⟩ u0).setCell ⟨B, 1, none⟩ u1).setCell ⟨B, 2, none⟩ u2) v d := by
  have hno : ∀ (o : Nat) (x : Value), w.cell? ⟨B, o, none⟩ = some x → (∀ l, x ≠ .string l) ∧ (∀ k z, x ≠ .int k z) := fun o x hx => by
    rw [t.cell] at hx
    match o, hx with
    | 0, hx => simp at hx; subst hx; exact ⟨fun l h => (by cases h), fun k z h => (by cases h)⟩
    | 1, hx => simp at hx; subst hx; exact ⟨fun l h => (by cases h), fun k z h => (by cases h)⟩
    | 2, hx => simp at hx; subst hx; exact ⟨fun l h => (by cases h), fun k z h => (by cases h)⟩
    | o + 3, hx => simp at hx
  obtain ⟨A, c, B2, e, rfl, hk, hp⟩ := h
  have ha : At (· ≠ B) (.slice A d.kept.length c) := by
    rcases hk with ⟨a, c', he, hx⟩ | ⟨b, off, cap, he, h0, _, _, hc⟩
    · have : d.kept.length = 0 := by simpa using congrArg List.length hx
      rw [this]
      cases A with
      | none => trivial
      | some a => exact fun h => absurd h (by omega)
    · simp only [Value.slice.injEq] at he
      obtain ⟨rfl, _, _⟩ := he
      refine fun _ hb => ?_
      have hb : b = B := hb
      subst hb
      have := hc 0 ((d.kept.map strV)[0]'h0) (List.getElem?_eq_getElem h0)
      rw [Nat.add_zero] at this
      exact (hno _ _ this).1 _ (by rw [List.getElem_map]; rfl)
  have hb : At (· ≠ B) (.slice B2 d.w.length e) := by
    cases B2 with
    | none => trivial
    | some a =>
      refine fun h0 hb => ?_
      obtain ⟨b, off, he, hbk, _, hc0, _⟩ := Puts.at hp 0 h0
      simp only [Option.some.injEq] at he
      subst he
      have hb : b = B := hb
      subst hb
      exact (hno _ _ hc0).2 _ _ rfl
  have hh : ∀ b, b ≠ B → (((w.setCell ⟨B, 0, none⟩ u0).setCell ⟨B, 1, none⟩ u1).setCell ⟨B, 2, none⟩ u2).heap[b]? = w.heap[b]? := fun b hb => by
    rw [heap_setCell_far _ _ _ _ (by simpa using hb), heap_setCell_far _ _ _ _ (by simpa using hb), heap_setCell_far _ _ _ _ (by simpa using hb)]
  exact ⟨A, c, B2, e, rfl, Row.frame hk ha (fun b hb _ => hh b hb) (by simp), Sl.frame hp hb (fun b hb _ => hh b hb) (by simp)⟩
theorem TBox.set3 {w : World} {B : Nat} {T : TypeId} {a b c : Value} (t : TBox w B T #[a, b, c]) (u0 u1 u2 : Value) : TBox (((w.setCell ⟨B, 0, none⟩ u0).setCell ⟨B, 1, none⟩ u1).setCell ⟨B, 2, none⟩ u2) B T #[u0, u1, u2] := ((t.set 0 u0).set 1 u1).set 2 u2
end Copyhold.Disk
namespace Go.Proofs.Ytahnkkmngbckdaa
open Go.RowKit Copyhold Copyhold.Disk

def fewB (d : DiskW) : Bool := decide (d.kept.length ≤ 50 ∧ d.w.length ≤ 50 ∧ Right d)
set_option maxHeartbeats 1000000 in
theorem law_few (d : DiskW) (v : Value) (w : World) (hv : DiskV w v d) (hok : OkD d) : Calls Try.prog 22 #[v] w fun e w' => e = .returned (.bool (fewB d)) ∧ Below w.heap.size w w' := by
  have hv0 := hv
  obtain ⟨A, c, B, eb, rfl, hk, hp⟩ := hv
  have hn := hok.1
  have hm := hok.2.2.2
  have hb0 : Below w.heap.size w (w.alloc (.cells #[.slice A d.kept.length c, .slice B d.w.length eb, .bool d.off] 25)) := (Below.refl _ _).alloc (Nat.le_refl _) _
  have HR := Lib.hid (ref04_Right d _ _ (hv0.below hb0) hok)
  by_cases h1 : d.kept.length ≤ 50
  · by_cases h2 : d.w.length ≤ 50
    · have hf : fewB d = decide (Right d) := by unfold fewB; simp [h1, h2]
      rw [hf]
      clear hv0 hk hp hb0 hf hok
      go_enter Try.func22, Try.ntmps22
      go_wp2_with fail
      refine HR.out.mono ?_
      rintro e w1 ⟨rfl, hb⟩
      generalize hz : decide (Right d) = z at *
      have HZ := Lib.hid hz
      clear hz
      go_wp2_with fail
      go_ret
      exact ⟨by rw [HZ.out]; rfl, below_trans ((Below.refl _ _).alloc (Nat.le_refl _) _) hb (by simp)⟩
    · have hf : fewB d = false := by unfold fewB; simp [h2]
      rw [hf]
      clear hv0 hk hp hb0 hf hok HR
      go_enter Try.func22, Try.ntmps22
      go_wp2_with fail
      go_ret
      exact ⟨rfl, (Below.refl _ _).alloc (Nat.le_refl _) _⟩
  · have hf : fewB d = false := by unfold fewB; simp [h1]
    rw [hf]
    clear hv0 hk hp hb0 hf hok HR
    go_enter Try.func22, Try.ntmps22
    go_wp2_with fail
    go_ret
    exact ⟨rfl, (Below.refl _ _).alloc (Nat.le_refl _) _⟩

theorem pad0 : ∃ r, padL [] = (0 : UInt8) :: r ∧ r.length = 63 := ⟨List.replicate 63 0, by decide, by simp⟩
theorem padh : ∃ r, padL [104, 105] = (104 : UInt8) :: 105 :: r ∧ r.length = 62 := ⟨List.replicate 62 0, by decide, by simp⟩
set_option maxRecDepth 100000 in
set_option maxHeartbeats 8000000 in
theorem law_shown (w : World) : Calls Try.prog 9 #[] w fun e w' => e = .returned (.bool true) ∧ Below w.heap.size w w' := by
  obtain ⟨r, hr, hrl⟩ := pad0
  obtain ⟨r2, hr2, hrl2⟩ := padh
  have e1 : newD 1 = (⟨[(0 : UInt8) :: r], [], false⟩, 0) := by unfold newD; rw [hr]; rfl
  have e2 : writeD ⟨[(0 : UInt8) :: r], [], false⟩ 0 [104, 105] = (⟨[(0 : UInt8) :: r], [(0, 104 :: 105 :: r2)], false⟩, 0) := by unfold writeD; rw [hr2]; rfl
  have e3 : crashL ⟨[(0 : UInt8) :: r], [(0, 104 :: 105 :: r2)], false⟩ [] = [(0 : UInt8) :: r] := rfl
  have e4 : crashL ⟨[(0 : UInt8) :: r], [(0, 104 :: 105 :: r2)], false⟩ [true] = [104 :: 105 :: r2] := rfl
  have hl1 : ((0 : UInt8) :: r).length = 64 := by simp [hrl]
  have hl2 : ((104 : UInt8) :: 105 :: r2).length = 64 := by simp [hrl2]
  have ok1 : OkD ⟨[(0 : UInt8) :: r], [], false⟩ := ⟨by simp, by intro l hl; simp at hl; subst hl; omega, by intro x hx; simp at hx, by simp⟩
  have ok2 : OkD ⟨[(0 : UInt8) :: r], [(0, 104 :: 105 :: r2)], false⟩ := ⟨by simp, by intro l hl; simp at hl; subst hl; omega, by intro x hx; simp at hx; subst hx; exact ⟨by simp only; omega, by simp⟩, by simp⟩
  have HN := Lib.hid (fun W => disk_New 1 W)
  rw [e1] at HN
  have HWr := Lib.hid (fun v W hv => disk_Write _ v 0 [104, 105] W hv ok1 (by simp))
  rw [e2] at HWr
  have HC1 := Lib.hid (fun v W hv => disk_Crash _ v (.slice none 0 0) [] W hv ok2 (.inl ⟨none, 0, rfl, rfl⟩) (by simp))
  rw [e3] at HC1
  have HC2 := Lib.hid (fun v kv W hv hk => disk_Crash _ v kv [true] W hv ok2 hk (by simp))
  rw [e4] at HC2
  clear e1 e2 e3 e4 ok1 ok2 hr hr2
  have hx0 : ∀ h, ((⟨((0 : UInt8) :: r).toArray⟩ : ByteArray)[0]'h).toNat = 0 := fun _ => rfl
  have hx2 : (⟨((104 : UInt8) :: 105 :: r2).toArray⟩ : ByteArray).extract 0 2 = ⟨#[104, 105]⟩ := by rw [piece]; simp
  generalize (0 : UInt8) :: r = p0 at *
  generalize (104 : UInt8) :: 105 :: r2 = ph at *
  clear hrl hrl2
  go_enter Try.func9, Try.ntmps9
  go_wp2_with fail
  refine (HN.out _).mono ?_
  rintro e w1 ⟨v, rfl, hdv, hb⟩
  obtain ⟨A1, c1, B1, d1, rfl⟩ := hdv.opn (n := 1) (m := 0) rfl rfl
  have BW_1 := Lib.hid hb
  have Rd_1 := Lib.hid hdv
  clear hb hdv
  obtain ⟨v2, hW⟩ : ∃ W, W = w1.alloc (.cells #[.slice A1 1 c1, .slice B1 0 d1, .bool false] 25) := ⟨_, rfl⟩
  have hbn : Below w1.heap.size w1 v2 := by rw [hW]; exact (Below.refl _ _).alloc (Nat.le_refl _) _
  have Ht := Lib.hid (show TBox v2 w1.heap.size 25 #[.slice A1 1 c1, .slice B1 0 d1, .bool false] from by rw [hW]; exact TBox.new _ _ _)
  have HWv2 := Lib.hid hW
  clear hW
  have Rd_v2 := Lib.hid (Rd_1.out.below hbn)
  have BW_v2 := Lib.hid (below_trans BW_1.out hbn BW_1.out.size)
  clear hbn
  go_wp2_with fail
  rw [← HWv2.out]
  refine (HWr.out _ _ Rd_v2.out).mono ?_
  rintro e w3 ⟨v, rfl, hdv, hb⟩
  have Ht_3 := Lib.hid (Ht.out.below hb)
  have Rd_3 := Lib.hid (Rd_v2.out.below hb)
  have BW_3 := Lib.hid (below_trans BW_v2.out hb BW_v2.out.size)
  obtain ⟨A2, c2, B2, d2, rfl⟩ := hdv.opn (n := 1) (m := 1) rfl rfl
  clear hb 
  have t0 : w3.cell? ⟨w1.heap.size, 0, none⟩ = some (.slice A1 1 c1) := Ht_3.out.cell 0
  have t1 : w3.cell? ⟨w1.heap.size, 1, none⟩ = some (.slice B1 0 d1) := Ht_3.out.cell 1
  have t2 : w3.cell? ⟨w1.heap.size, 2, none⟩ = some (.bool false) := Ht_3.out.cell 2
  have f0 := Ht_3.out.free 0
  have f1 := Ht_3.out.free 1
  have f2 := Ht_3.out.free 2
  obtain ⟨W3, hW3⟩ : ∃ W, W = ((w3.setCell ⟨w1.heap.size, 0, none⟩ (.slice A2 1 c2)).setCell ⟨w1.heap.size, 1, none⟩ (.slice B2 1 d2)).setCell ⟨w1.heap.size, 2, none⟩ (.bool false) := ⟨_, rfl⟩
  have HT3 := Lib.hid (show TBox W3 (w1.heap.size) 25 #[.slice A2 1 c2, .slice B2 1 d2, .bool false] from by rw [hW3]; exact TBox.set3 Ht_3.out _ _ _)
  have HD3 := Lib.hid (show DiskV W3 (.agg #[.slice A2 1 c2, .slice B2 1 d2, .bool false]) ⟨[p0], [(0, ph)], false⟩ from by rw [hW3]; exact DiskV.set3 Ht_3.out hdv _ _ _)
  have HB3 := Lib.hid (show Below w.heap.size w W3 from by rw [hW3]; exact ((BW_3.out.setCell (p := ⟨w1.heap.size, 0, none⟩) (by have := BW_1.out.size; simp; omega) _).setCell (p := ⟨w1.heap.size, 1, none⟩) (by have := BW_1.out.size; simp; omega) _).setCell (p := ⟨w1.heap.size, 2, none⟩) (by have := BW_1.out.size; simp; omega) _)
  have HW3 := Lib.hid hW3
  have lt3 := HT3.out.lt
  have u0 : W3.cell? ⟨w1.heap.size, 0, none⟩ = some (.slice A2 1 c2) := HT3.out.cell 0
  have u1 : W3.cell? ⟨w1.heap.size, 1, none⟩ = some (.slice B2 1 d2) := HT3.out.cell 1
  have u2 : W3.cell? ⟨w1.heap.size, 2, none⟩ = some (.bool false) := HT3.out.cell 2
  clear hW3 hdv
  go_wp2_with fail
  rw [← HW3.out]
  clear t0 t1 t2 f0 f1 f2
  go_wp2_with fail
  refine (HC1.out _ _ HD3.out).mono ?_
  rintro e w4 ⟨v, rfl, hdv, hb⟩
  have Ht_4 := Lib.hid (HT3.out.below hb)
  have Rd_4 := Lib.hid (HD3.out.below hb)
  have BW_4 := Lib.hid (below_trans HB3.out hb HB3.out.size)
  obtain ⟨A3, c3, B3, d3, rfl⟩ := hdv.opn (n := 1) (m := 0) rfl rfl
  have Rc := Lib.hid hdv
  clear hdv u0 u1 u2
  clear hb 
  obtain ⟨v5, hW⟩ : ∃ W, W = w4.alloc (.cells #[.slice A3 1 c3, .slice B3 0 d3, .bool false] 25) := ⟨_, rfl⟩
  have hbn : Below w4.heap.size w4 v5 := by rw [hW]; exact (Below.refl _ _).alloc (Nat.le_refl _) _
  have Hc := Lib.hid (show TBox v5 w4.heap.size 25 #[.slice A3 1 c3, .slice B3 0 d3, .bool false] from by rw [hW]; exact TBox.new _ _ _)
  have HWv5 := Lib.hid hW
  clear hW
  have Ht_v5 := Lib.hid (Ht_4.out.below hbn)
  have Rd_v5 := Lib.hid (Rd_4.out.below hbn)
  have Rc_v5 := Lib.hid (Rc.out.below hbn)
  have BW_v5 := Lib.hid (below_trans BW_4.out hbn BW_4.out.size)
  clear hbn
  have ct_0 : w4.cell? ⟨w1.heap.size, 0, none⟩ = some (.slice A2 1 c2) := Ht_4.out.cell 0
  have ct_1 : w4.cell? ⟨w1.heap.size, 1, none⟩ = some (.slice B2 1 d2) := Ht_4.out.cell 1
  have ct_2 : w4.cell? ⟨w1.heap.size, 2, none⟩ = some (.bool false) := Ht_4.out.cell 2
  have ltt := Ht_4.out.lt
  obtain ⟨v6, hW⟩ : ∃ W, W = v5.alloc (.cells #[.bool true] 4) := ⟨_, rfl⟩
  have hbn : Below v5.heap.size v5 v6 := by rw [hW]; exact (Below.refl _ _).alloc (Nat.le_refl _) _
  have hkr : Row v6 (.slice (some ⟨v5.heap.size, 0, none⟩) 1 1) ([true].map Value.bool) := by
    rw [hW]
    exact .inr ⟨v5.heap.size, 0, 1, rfl, by simp, by simp, by simp, fun i x hx => by rw [Nat.zero_add, cell_new]; simpa using hx⟩
  have hvs : v5.heap.size = w4.heap.size + 1 := by rw [HWv5.out]; simp
  rw [hvs] at hkr
  have HKR := Lib.hid hkr
  have HWk := Lib.hid hW
  clear hW hkr hvs
  have Ht_v6 := Lib.hid (Ht_v5.out.below hbn)
  have Hc_v6 := Lib.hid (Hc.out.below hbn)
  have Rd_v6 := Lib.hid (Rd_v5.out.below hbn)
  have Rc_v6 := Lib.hid (Rc_v5.out.below hbn)
  have BW_v6 := Lib.hid (below_trans BW_v5.out hbn BW_v5.out.size)
  clear hbn
  go_wp2_with fail
  rw [← HWv5.out]
  rw [← HWk.out]
  refine (HC2.out _ _ _ Rd_v6.out HKR.out).mono ?_
  rintro e w7 ⟨v, rfl, hdv, hb⟩
  have Ht_7 := Lib.hid (Ht_v6.out.below hb)
  have Hc_7 := Lib.hid (Hc_v6.out.below hb)
  have Rd_7 := Lib.hid (Rd_v6.out.below hb)
  have Rc_7 := Lib.hid (Rc_v6.out.below hb)
  have BW_7 := Lib.hid (below_trans BW_v6.out hb BW_v6.out.size)
  obtain ⟨A4, c4, B4, d4, rfl⟩ := hdv.opn (n := 1) (m := 0) rfl rfl
  have Rk := Lib.hid hdv
  clear hdv
  clear hb 
  obtain ⟨A3', c3', B3', d3', he, hrc, _⟩ := Rc_7.out
  simp only [Value.agg.injEq, List.cons.injEq, Array.mk.injEq, Value.slice.injEq, and_true, true_and] at he
  obtain ⟨⟨rfl, -, rfl⟩, -⟩ := he
  obtain ⟨A4', c4', B4', d4', he, hrk, _⟩ := Rk.out
  simp only [Value.agg.injEq, List.cons.injEq, Array.mk.injEq, Value.slice.injEq, and_true, true_and] at he
  obtain ⟨⟨rfl, -, rfl⟩, -⟩ := he
  simp only at hrc hrk
  obtain ⟨b3, o3, rfl, hb3k, _, h3c⟩ := hrc.at 0 rfl
  obtain ⟨b4, o4, rfl, hb4k, _, h4c⟩ := hrk.at 0 rfl
  have g3 : w7.cell? ⟨b3, o3, none⟩ = some (.string ⟨p0.toArray⟩) := h3c 0 _ rfl
  have g4 : w7.cell? ⟨b4, o4, none⟩ = some (.string ⟨ph.toArray⟩) := h4c 0 _ rfl
  clear hrc hrk h3c h4c
  obtain ⟨v8, hW⟩ : ∃ W, W = w7.alloc (.cells #[.slice (some ⟨b4, o4, none⟩) 1 c4, .slice B4 0 d4, .bool false] 25) := ⟨_, rfl⟩
  have hbn : Below w7.heap.size w7 v8 := by rw [hW]; exact (Below.refl _ _).alloc (Nat.le_refl _) _
  have Hk := Lib.hid (show TBox v8 w7.heap.size 25 #[.slice (some ⟨b4, o4, none⟩) 1 c4, .slice B4 0 d4, .bool false] from by rw [hW]; exact TBox.new _ _ _)
  have HWv8 := Lib.hid hW
  clear hW
  have Ht_v8 := Lib.hid (Ht_7.out.below hbn)
  have Hc_v8 := Lib.hid (Hc_7.out.below hbn)
  have Rd_v8 := Lib.hid (Rd_7.out.below hbn)
  have Rc_v8 := Lib.hid (Rc_7.out.below hbn)
  have Rk_v8 := Lib.hid (Rk.out.below hbn)
  have BW_v8 := Lib.hid (below_trans BW_7.out hbn BW_7.out.size)
  clear hbn
  have cc_0 : w7.cell? ⟨w4.heap.size, 0, none⟩ = some (.slice (some ⟨b3, o3, none⟩) 1 c3) := Hc_7.out.cell 0
  have cc_1 : w7.cell? ⟨w4.heap.size, 1, none⟩ = some (.slice B3 0 d3) := Hc_7.out.cell 1
  have cc_2 : w7.cell? ⟨w4.heap.size, 2, none⟩ = some (.bool false) := Hc_7.out.cell 2
  have ltc := Hc_7.out.lt
  go_wp2_with fail
  go_ret
  exact ⟨rfl, by have := BW_v8.out; rw [HWv8.out] at this; exact this⟩
end Go.Proofs.Ytahnkkmngbckdaa
