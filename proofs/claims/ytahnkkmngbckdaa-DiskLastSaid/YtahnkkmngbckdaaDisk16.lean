/- What DiskKeeps and DiskLast rest on. -/
import Derived.Test.YtahnkkmngbckdaaDisk15
set_option linter.unusedVariables false
namespace Copyhold.Disk
open Go Go.RowKit
theorem DiskV.krow {w : World} {x y z : Value} {d : DiskW} (h : DiskV w (.agg #[x, y, z]) d) : Row w x (d.kept.map strV) := by
  obtain ⟨A, c, B, e, he, hk, _⟩ := h
  simp only [Value.agg.injEq, Array.mk.injEq, List.cons.injEq] at he
  rw [he.1]
  exact hk
theorem lets_keep_all (n : Nat) (ws : List PutW) (i m : Nat) (h : i + ws.length ≤ m) : lets n (keepP (List.replicate m true)) i ws = lets n (fun _ _ => true) i ws := by
  induction ws generalizing i with
  | nil => rfl
  | cons w ws ih =>
    simp only [List.length_cons] at h
    have hk : keepP (List.replicate m true) i w = true := by simp [keepP, List.getD, show i < m from by omega]
    simp only [lets, hk, ih (i + 1) (by omega)]
theorem crash_all (d : DiskW) : crashL d (List.replicate d.w.length true) = imageL d := by
  unfold crashL imageL
  rw [lets_keep_all _ _ _ _ (by omega)]
theorem image64_ {d : DiskW} (hr : Right d) : ∀ x ∈ imageL d, x.length = 64 := by
  rw [hr.image]
  exact doneL_all64 hr.2.1 fun p hp => (hr.2.2 p hp).2
theorem right_image {d : DiskW} (hr : Right d) : Right ⟨imageL d, [], false⟩ := by
  refine ⟨?_, image64_ hr, fun p hp => by simp at hp⟩
  have : (imageL d).length = d.kept.length := doneL_len _ _
  simp only [this]
  exact hr.1
theorem right_crash {d : DiskW} (hr : Right d) (keep : List Bool) : Right ⟨crashL d keep, [], false⟩ := by
  refine ⟨?_, doneL_all64 hr.2.1 fun p hp => (hr.2.2 p (lets_mem p hp)).2, fun p hp => by simp at hp⟩
  have : (crashL d keep).length = d.kept.length := doneL_len _ _
  simp only [this]
  exact hr.1
theorem image_more (kept : List (List UInt8)) (ws : List PutW) (o o' : Bool) (a : Int) (x : List UInt8) (h : 0 ≤ a ∧ a < kept.length) : imageL ⟨kept, ws ++ [(a, x)], o⟩ = (imageL ⟨kept, ws, o'⟩).set a.toNat x := by
  unfold imageL
  simp only
  rw [lets_append, doneL_append]
  simp only [lets, (thereB_iff _ _).2 h, Bool.and_true, if_true]
  rfl
end Copyhold.Disk
namespace Go.Proofs.Ytahnkkmngbckdaa
open Go.RowKit Copyhold Copyhold.Disk
theorem right_write {d : DiskW} (hr : Right d) (at' : Int) (s : List UInt8) : Right (writeD d at' s).1 := by
  unfold writeD
  split
  · exact hr
  · rename_i hz
    split
    · exact hr
    · rename_i h64
      obtain ⟨_, h0, h1⟩ := refused_zero (show refusedD d.kept.length d.off at' = 0 from by simpa using hz)
      refine ⟨hr.1, hr.2.1, fun p hp => ?_⟩
      rcases List.mem_append.1 hp with hp | hp
      · exact hr.2.2 p hp
      · simp at hp
        subst hp
        exact ⟨⟨h0, h1⟩, padL_len s (by omega)⟩
/-- what a write that goes through is -/
theorem write_good {d : DiskW} {at' : Int} {s : List UInt8} (h : (writeD d at' s).2 = 0) : d.off = false ∧ (0 ≤ at' ∧ at' < d.kept.length) ∧ s.length ≤ 64 ∧ (writeD d at' s).1 = ⟨d.kept, d.w ++ [(at', padL s)], false⟩ := by
  unfold writeD at h ⊢
  split at h
  · rename_i hz; exact absurd h hz
  · rename_i hz
    split at h
    · simp at h
    · rename_i h64
      obtain ⟨ho, h0, h1⟩ := refused_zero (show refusedD d.kept.length d.off at' = 0 from by simpa using hz)
      exact ⟨ho, ⟨h0, h1⟩, by omega, by rw [if_neg hz, if_neg h64]⟩
theorem write_bad {d : DiskW} {at' : Int} {s : List UInt8} (h : (writeD d at' s).2 ≠ 0) : (writeD d at' s).1 = d := by
  unfold writeD at h ⊢
  split
  · rfl
  · rename_i hz
    rw [if_neg hz] at h
    split
    · rfl
    · rename_i h64
      rw [if_neg h64] at h
      simp at h
/-- what is read behind a write -/
theorem read_written (kept : List (List UInt8)) (ws : List PutW) (a : Int) (x : List UInt8) (h : 0 ≤ a ∧ a < kept.length) : readD ⟨kept, ws ++ [(a, x)], false⟩ a = (x, 0) := by
  have hz : refusedD kept.length false a = 0 := by unfold refusedD; rw [(thereB_iff _ _).2 h]; rfl
  unfold readD
  simp only
  rw [if_pos hz, image_more kept ws false false a x h]
  have hl : a.toNat < (imageL ⟨kept, ws, false⟩).length := by rw [image_len]; simp only; omega
  simp [List.getD, hl]
theorem read_others (kept : List (List UInt8)) (ws : List PutW) (a b : Int) (x : List UInt8) (h : 0 ≤ a ∧ a < kept.length) : (readD ⟨kept, ws ++ [(a, x)], false⟩ b).2 = (readD ⟨kept, ws, false⟩ b).2 ∧ (b ≠ a → (readD ⟨kept, ws ++ [(a, x)], false⟩ b).1 = (readD ⟨kept, ws, false⟩ b).1) := by
  unfold readD
  simp only
  by_cases hz : refusedD kept.length false b = 0
  · obtain ⟨_, h0, h1⟩ := refused_zero hz
    rw [if_pos hz, if_pos hz, image_more kept ws false false a x h]
    refine ⟨rfl, fun hne => ?_⟩
    simp only [List.getD]
    rw [List.getElem?_set_ne (by omega)]
  · rw [if_neg hz, if_neg hz]
    exact ⟨rfl, fun _ => rfl⟩
theorem field0 (A : Option Addr) (n c : Nat) (y z : Value) (W : World) : (Instr.field 25 (.agg #[.slice A n c, y, z]) 0).run Try.prog W = .ok (.slice A n c) W := by kernel_rfl
theorem boolElem : Elem Try.prog 43 4 (.bool false) 1 1 := ⟨by kernel_rfl, by kernel_rfl, rfl, by decide⟩
theorem byteElem : Elem Try.prog 60 5 (.int .u8 0) 1 1 := ⟨by kernel_rfl, by kernel_rfl, rfl, by decide⟩
/-- a mark more -/
theorem app_bool {w3 : World} {base k : Nat} {sv : Value} {xs : List Value} (b : Bool) (ho : w3.ownsRow base 4 1 sv k xs) (hn : k ≤ 1000000) (hbase : base ≤ w3.heap.size) :
    ∃ v' w4, (Builtin.append_ #[43, 43] 43 #[sv, .slice (some ⟨w3.heap.size, 0, none⟩) 1 1]).run Try.prog (w3.alloc (.cells #[.bool b] 4)) = .ok v' w4 ∧ w4.ownsRow base 4 1 v' (k + 1) (xs ++ [.bool b]) ∧
      (∀ (B : Nat) (a : World), Below B a w3 → B ≤ base → Below B a w4) := by
  have hsl : Sl (w3.alloc (.cells #[.bool b] 4)) 1 (.slice (some ⟨w3.heap.size, 0, none⟩) 1 1) 1 [.bool b] :=
    ⟨_, 1, rfl, Nat.le_refl _, by simp, fun _ => ⟨w3.heap.size, 0, rfl, by simp, fun j y hj => by
      rw [Nat.zero_add, cell_new]
      simpa using hj⟩⟩
  obtain ⟨v', w4, hrun, h1, h2, _⟩ := append_sl boolElem _ base 43 sv k _ (ho.alloc _) _ 1 _ hsl (fun u hu => by simp at hu; subst hu; rfl) (by unfold maxLen; omega) (by omega) (by simp; omega)
  exact ⟨v', w4, hrun, h1, fun B a hb hB => (hb.alloc (Nat.le_trans hB hbase) _).grown h2 (by simp; omega) (fun g hg => Nat.le_trans hB (own_block_ge ho g hg).1)⟩
end Go.Proofs.Ytahnkkmngbckdaa
