/- disk.New: it answers as the document says; old memory is as it was. -/
import Derived.Test.YtahnkkmngbckdaaDisk2
set_option linter.unusedVariables false
set_option linter.unusedSimpArgs false
namespace Go.Proofs.Ytahnkkmngbckdaa
open Go.RowKit Copyhold Copyhold.Disk

theorem strElem : Elem Try.prog 22 9 (Value.string ByteArray.empty) 1 16 := ⟨by kernel_rfl, by kernel_rfl, rfl, by decide⟩
/-- a disk that is made -/
def newD (many : Int) : DiskW × Int := if 1 ≤ many ∧ many ≤ 4096 then (⟨List.replicate many.toNat (padL []), [], false⟩, 0) else (⟨[], [], false⟩, 1)
/-- a disk, and why not -/
def RetDisk (w : World) (q : DiskW × Int) (e : Ending) (w' : World) : Prop := ∃ v, e = .returned (.tuple #[v, .int .i64 q.2]) ∧ DiskV w' v q.1 ∧ Below w.heap.size w w'

theorem DiskV.empty (w : World) : DiskV w (.agg #[.slice none 0 0, .slice none 0 0, .bool false]) ⟨[], [], false⟩ := ⟨none, 0, none, 0, rfl, .inl ⟨none, 0, rfl, rfl⟩, Puts.nil w⟩

theorem set_fill {α : Type} (a : List α) (n : Nat) (z x : α) (h : 0 < n) : (a ++ List.replicate n z).set a.length x = a ++ [x] ++ List.replicate (n - 1) z := by
  obtain ⟨m, rfl⟩ : ∃ m, n = m + 1 := ⟨n - 1, by omega⟩
  rw [List.set_append_right _ _ (Nat.le_refl _), Nat.sub_self, List.replicate_succ]
  simp

set_option maxHeartbeats 4000000 in
theorem disk_New (many : Int) (w : World) : Calls Try.prog 10 #[.int .i64 many] w (RetDisk w (newD many)) := by
  by_cases hin : 1 ≤ many ∧ many ≤ 4096
  · obtain ⟨n, rfl⟩ := Int.eq_ofNat_of_zero_le (show 0 ≤ many by omega)
    have hq : newD (n : Int) = (⟨List.replicate n (padL []), [], false⟩, 0) := by unfold newD; rw [if_pos hin, Int.toNat_natCast]
    rw [hq]
    obtain ⟨h1, h2⟩ := hin
    obtain ⟨W0, hW0⟩ : ∃ W, W = w.alloc (.cells #[.slice none 0 0, .slice none 0 0, .bool false] 25) := ⟨_, rfl⟩
    have hb0 : Below w.heap.size w W0 := by rw [hW0]; exact (Below.refl _ _).alloc (Nat.le_refl _) _
    have HR0 := Lib.hid (show TBox W0 w.heap.size 25 #[.slice none 0 0, .slice none 0 0, .bool false] from by rw [hW0]; exact TBox.new _ _ _)
    have BW := Lib.hid hb0
    have HW := Lib.hid hW0
    have HPAD := Lib.hid (fun W => disk_pad [] W (by simp))
    have hp64 : (padL []).length = 64 := padL_len _ (by simp)
    generalize hpd : padL [] = pd at *
    clear hW0 hb0 hq hpd
    go_enter Try.func10, Try.ntmps10
    go_wp2_with fail
    rw [← HW.out]
    refine (HPAD.out _).mono ?_
    rintro e w1 ⟨rfl, hb1⟩
    have BW1 := Lib.hid (below_trans BW.out hb1 BW.out.size)
    have HR1 := Lib.hid (HR0.out.below hb1)
    clear hb1
    have hmk := make_one strElem rfl n (by omega) (by omega) w1
    have ho := owns_built (w := w1) (base := w1.heap.size) (e := 9) (List.replicate n (Value.string ByteArray.empty)).toArray (Nat.le_refl _) (by unfold maxLen; simp; omega)
    rw [show (List.replicate n (Value.string ByteArray.empty)).toArray.size = n from by simp] at ho
    have hb2 := (Below.refl w1.heap.size w1).alloc (Nat.le_refl _) (.cells (List.replicate n (Value.string ByteArray.empty)).toArray 9)
    have hs2 : (w1.alloc (.cells (List.replicate n (Value.string ByteArray.empty)).toArray 9)).heap.size = w1.heap.size + 1 := by simp
    obtain ⟨W2, hW2⟩ : ∃ W, W = w1.alloc (.cells (List.replicate n (Value.string ByteArray.empty)).toArray 9) := ⟨_, rfl⟩
    rw [← hW2] at hmk ho hb2 hs2
    have BW2 := Lib.hid (below_trans BW1.out hb2 BW1.out.size)
    have HR2 := Lib.hid (HR1.out.below hb2)
    obtain ⟨W3, hW3⟩ : ∃ W, W = W2.alloc (.cells #[.slice (some ⟨w1.heap.size, 0, none⟩) n n, .slice none 0 0, .bool false] 25) := ⟨_, rfl⟩
    have hb3 : Below W2.heap.size W2 W3 := by rw [hW3]; exact (Below.refl _ _).alloc (Nat.le_refl _) _
    have HD3 := Lib.hid (show TBox W3 W2.heap.size 25 #[.slice (some ⟨w1.heap.size, 0, none⟩) n n, .slice none 0 0, .bool false] from by rw [hW3]; exact TBox.new _ _ _)
    have HR3 := Lib.hid (HR2.out.below hb3)
    have BW3 := Lib.hid (below_trans BW2.out hb3 BW2.out.size)
    have HO3 := Lib.hid (owns_below ho hb3)
    have HW3 := Lib.hid hW3
    have HS2 := Lib.hid hs2
    have HS1 := Lib.hid (show w.heap.size < w1.heap.size from HR1.out.lt)
    clear hW2 hb2 hs2 ho hW3 hb3
    go_wp2_with fail
    go_loopw [21] (fun i wr => ∃ k : Nat, k ≤ n ∧ i = .int .i64 k ∧ TBox wr W2.heap.size 25 #[.slice (some ⟨w1.heap.size, 0, none⟩) n n, .slice none 0 0, .bool false] ∧ TBox wr w.heap.size 25 #[.slice none 0 0, .slice none 0 0, .bool false] ∧
      wr.ownsRow w1.heap.size 9 1 (.slice (some ⟨w1.heap.size, 0, none⟩) n n) n ((List.replicate k pd).map strV ++ List.replicate (n - k) (Value.string ByteArray.empty)) ∧ Below w.heap.size w wr) (fun i _ => n - (intOf i).toNat)
    case atStart =>
      rw [← HW3.out]
      exact ⟨0, Nat.zero_le _, rfl, HD3.out, HR3.out, by simpa using HO3.out, BW3.out⟩
    case round =>
      obtain ⟨k, hk, rfl, htd, htr, hown, hbw⟩ := hrel
      have HTD := Lib.hid htd
      have HTR := Lib.hid htr
      have HOWN := Lib.hid hown
      have HBW := Lib.hid hbw
      have d0 : wr.cell? ⟨W2.heap.size, 0, none⟩ = some (.slice (some ⟨w1.heap.size, 0, none⟩) n n) := htd.cell 0
      have d1 : wr.cell? ⟨W2.heap.size, 1, none⟩ = some (.slice none 0 0) := htd.cell 1
      have d2 : wr.cell? ⟨W2.heap.size, 2, none⟩ = some (.bool false) := htd.cell 2
      clear htd htr hown hbw hmk
      by_cases hlt : k < n
      · have hll : ((List.replicate k pd).map strV).length = k := by simp
        have hcu : wr.cell? ⟨w1.heap.size, k, none⟩ = some (Value.string ByteArray.empty) := by
          rw [HOWN.out.cellAt k (by omega), List.getElem?_append_right (by omega), hll, List.getElem?_replicate, if_pos (by omega)]
        have hfr := HOWN.out.frozenAt k
        have hst := (HOWN.out.stored k (strV pd)).1
        have hnew : ((List.replicate k pd).map strV ++ List.replicate (n - k) (Value.string ByteArray.empty)).set k (strV pd) = (List.replicate (k + 1) pd).map strV ++ List.replicate (n - (k + 1)) (Value.string ByteArray.empty) := by
          have := set_fill ((List.replicate k pd).map strV) (n - k) (Value.string ByteArray.empty) (strV pd) (by omega)
          rw [hll] at this
          rw [this, List.replicate_succ', show n - k - 1 = n - (k + 1) from by omega]
          simp
        rw [hnew] at hst
        have HST := Lib.hid hst
        clear hst hnew hll
        go_wp2_with fail
        go_roundw
        case rel => exact ⟨k + 1, by omega, by go_num, HTD.out.far _ _ _ (by have := HS2.out; omega), HTR.out.far _ _ _ (by have := HS1.out; omega), HST.out, HBW.out.setCell (p := ⟨w1.heap.size, k, none⟩) (by have := HS1.out; simp; omega) _⟩
        case measure => simp [intOf]; omega
      · obtain rfl : k = n := by omega
        have r0 : wr.cell? ⟨w.heap.size, 0, none⟩ = some (.slice none 0 0) := HTR.out.cell 0
        have r1 : wr.cell? ⟨w.heap.size, 1, none⟩ = some (.slice none 0 0) := HTR.out.cell 1
        have r2 : wr.cell? ⟨w.heap.size, 2, none⟩ = some (.bool false) := HTR.out.cell 2
        have f0 := HTR.out.free 0
        have f1 := HTR.out.free 1
        have f2 := HTR.out.free 2
        go_wp2_with fail
        refine bodyPost_ret (v := .tuple #[.agg #[.slice (some ⟨w1.heap.size, 0, none⟩) k k, .slice none 0 0, .bool false], .int .i64 0]) (by simp [results, Try.results10, go_sem, r0, r1, r2]) rfl ⟨_, rfl, ⟨some ⟨w1.heap.size, 0, none⟩, k, none, 0, by simp, ?_, Puts.nil _⟩, ?_⟩
        · have hs := HS1.out
          have h := HOWN.out
          rw [Nat.sub_self, List.replicate_zero, List.append_nil] at h
          have h2 := Row.of_owns (owns_setCell (owns_setCell (owns_setCell h ⟨w.heap.size, 0, none⟩ (.slice (some ⟨w1.heap.size, 0, none⟩) k k) (by simp; omega)) ⟨w.heap.size, 1, none⟩ (.slice none 0 0) (by simp; omega)) ⟨w.heap.size, 2, none⟩ (.bool false) (by simp; omega))
          simpa using h2
        · exact ((HBW.out.setCell (p := ⟨w.heap.size, 0, none⟩) (Nat.le_refl _) _).setCell (p := ⟨w.heap.size, 1, none⟩) (Nat.le_refl _) _).setCell (p := ⟨w.heap.size, 2, none⟩) (Nat.le_refl _) _
  · have hq : newD many = (⟨[], [], false⟩, 1) := by unfold newD; rw [if_neg hin]
    rw [hq]
    clear hq
    by_cases h1 : many < 1
    · go_enter Try.func10, Try.ntmps10
      go_wp2_with fail
      refine bodyPost_ret (v := .tuple #[.agg #[.slice none 0 0, .slice none 0 0, .bool false], .int .i64 1]) (by simp [results, Try.results10, go_sem]) rfl ⟨_, rfl, DiskV.empty _, ?_⟩
      exact (Below.refl _ w).alloc (Nat.le_refl _) _
    · have h2 : 4096 < many := by omega
      go_enter Try.func10, Try.ntmps10
      go_wp2_with fail
      refine bodyPost_ret (v := .tuple #[.agg #[.slice none 0 0, .slice none 0 0, .bool false], .int .i64 1]) (by simp [results, Try.results10, go_sem]) rfl ⟨_, rfl, DiskV.empty _, ?_⟩
      exact (Below.refl _ w).alloc (Nat.le_refl _) _
end Go.Proofs.Ytahnkkmngbckdaa
