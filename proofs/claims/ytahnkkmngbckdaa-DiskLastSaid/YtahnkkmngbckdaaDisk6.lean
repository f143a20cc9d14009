/- disk.Image, disk.Flush, disk.Crash: they answer as the document says; old memory is as it was. -/
import Derived.Test.YtahnkkmngbckdaaDisk5
set_option linter.unusedVariables false
set_option linter.unusedSimpArgs false
namespace Go.Proofs.Ytahnkkmngbckdaa
open Go.RowKit Copyhold Copyhold.Disk

theorem doneL_bd {d : DiskW} (hok : OkD d) (ws : List PutW) (hw : ∀ p ∈ ws, p ∈ d.w) : (doneL d.kept ws).length ≤ 8796093022208 ∧ ∀ l ∈ doneL d.kept ws, l.length ≤ 140737488351232 := by
  refine ⟨by rw [doneL_len]; exact hok.1, ?_⟩
  have key : ∀ (l : List (List UInt8)) (vs : List PutW), (∀ x ∈ l, x.length ≤ 140737488351232) → (∀ p ∈ vs, p.2.length ≤ 140737488351232) → ∀ x ∈ doneL l vs, x.length ≤ 140737488351232 := by
    intro l vs
    induction vs generalizing l with
    | nil => intro h _; exact h
    | cons v vs ih =>
      intro h hv
      refine ih (l.set v.1.toNat v.2) (fun x hx => ?_) (fun p hp => hv p (List.mem_cons_of_mem _ hp))
      rcases List.mem_or_eq_of_mem_set hx with hx | rfl
      · exact h x hx
      · exact hv v List.mem_cons_self
  exact key _ _ hok.2.1 fun p hp => (hok.2.2.1 p (hw p hp)).1

theorem disk_Image (d : DiskW) (v : Value) (w : World) (hv : DiskV w v d) (hok : OkD d) : Calls Try.prog 20 #[v] w (RetRow w (imageL d)) := by
  obtain ⟨A, c, B, eb, rfl, hk, hp⟩ := hv
  have hb0 : Below w.heap.size w (w.alloc (.cells #[.slice A d.kept.length c, .slice B d.w.length eb, .bool d.off] 25)) := (Below.refl _ _).alloc (Nat.le_refl _) _
  have HC := Lib.hid (callsIn_wide.1 (done_all 4 (Nat.le_refl _) d A c B eb (fun _ _ => true) _ (hk.below hb0) (hp.below hb0) hok (fun S W _ _ => let_all S W)))
  unfold imageL
  generalize doneL d.kept (lets d.kept.length (fun _ _ => true) 0 d.w) = im at *
  clear hk hp hb0
  go_enter Try.func20, Try.ntmps20
  go_wp2_with fail
  refine HC.out.mono ?_
  rintro e w1 ⟨v, rfl, hr, hat, hb⟩
  obtain ⟨A', c', rfl⟩ := hr.shape
  rw [List.length_map] at hr hat ⊢
  have HR := Lib.hid (And.intro hr (And.intro hat hb))
  clear hr hat hb
  go_wp2_with fail
  go_ret
  obtain ⟨hr, hat, hb⟩ := HR.out
  exact ⟨_, rfl, hr, hat.mono fun b hb => by simp at hb; omega, below_trans ((Below.refl _ _).alloc (Nat.le_refl _) _) hb (by simp)⟩

theorem DiskV.row {w : World} {A : Option Addr} {c : Nat} {l : List (List UInt8)} (h : Row w (.slice A l.length c) (l.map strV)) : DiskV w (.agg #[.slice A l.length c, .slice none 0 0, .bool false]) ⟨l, [], false⟩ :=
  ⟨A, c, none, 0, rfl, h, Puts.nil w⟩

/-- what is flushed -/
def flushD (d : DiskW) : DiskW × Int := if d.off then (d, 19) else (⟨imageL d, [], false⟩, 0)
set_option maxHeartbeats 1000000 in
theorem disk_Flush (d : DiskW) (v : Value) (w : World) (hv : DiskV w v d) (hok : OkD d) : Calls Try.prog 25 #[v] w (RetDisk w (flushD d)) := by
  have hv0 := hv
  obtain ⟨A, c, B, eb, rfl, hk, hp⟩ := hv
  cases hoff : d.off with
  | true =>
    have hq : flushD d = (d, 19) := by unfold flushD; rw [hoff]; rfl
    rw [hq]
    rw [hoff] at hv0
    obtain ⟨W0, hW0⟩ : ∃ W, W = (w.alloc (.cells #[.slice A d.kept.length c, .slice B d.w.length eb, .bool true] 25)).alloc (.cells #[.slice none 0 0, .slice none 0 0, .bool false] 25) := ⟨_, rfl⟩
    have hb0 : Below w.heap.size w W0 := by rw [hW0]; exact ((Below.refl _ _).alloc (Nat.le_refl _) _).alloc (by simp) _
    have HV := Lib.hid hv0
    clear hv0 hk hp hq hoff hW0 hb0 W0
    go_enter Try.func25, Try.ntmps25
    go_wp2_with fail
    have hb : Below w.heap.size w ((w.alloc (.cells #[.slice A d.kept.length c, .slice B d.w.length eb, .bool true] 25)).alloc (.cells #[.slice A d.kept.length c, .slice B d.w.length eb, .bool true] 25)) :=
      ((Below.refl _ _).alloc (Nat.le_refl _) _).alloc (by simp) _
    refine bodyPost_ret (v := .tuple #[.agg #[.slice A d.kept.length c, .slice B d.w.length eb, .bool true], .int .i64 19]) (by simp [results, Try.results25, go_sem]) rfl ⟨_, rfl, HV.out.below hb, hb⟩
  | false =>
    have hq : flushD d = (⟨imageL d, [], false⟩, 0) := by unfold flushD; rw [hoff]; rfl
    rw [hq]
    rw [hoff] at hv0
    obtain ⟨W0, hW0⟩ : ∃ W, W = (w.alloc (.cells #[.slice A d.kept.length c, .slice B d.w.length eb, .bool false] 25)).alloc (.cells #[.slice none 0 0, .slice none 0 0, .bool false] 25) := ⟨_, rfl⟩
    have hb0 : Below w.heap.size w W0 := by rw [hW0]; exact ((Below.refl _ _).alloc (Nat.le_refl _) _).alloc (by simp) _
    have HR0 := Lib.hid (show TBox W0 (w.heap.size + 1) 25 #[.slice none 0 0, .slice none 0 0, .bool false] from by
      rw [hW0]
      have := TBox.new (w.alloc (.cells #[.slice A d.kept.length c, .slice B d.w.length eb, .bool false] 25)) 25 #[.slice none 0 0, .slice none 0 0, .bool false]
      rw [World.size_alloc] at this
      exact this)
    have hs0 : W0.heap.size = w.heap.size + 2 := by rw [hW0]; simp
    have HI := Lib.hid (disk_Image d _ W0 (hv0.below hb0) hok)
    have HW := Lib.hid hW0
    have HB0 := Lib.hid hb0
    have HS0 := Lib.hid hs0
    generalize imageL d = im at *
    clear hv0 hk hp hq hoff hW0 hb0 hs0
    go_enter Try.func25, Try.ntmps25
    go_wp2_with fail
    rw [← HW.out]
    refine HI.out.mono ?_
    rintro e w1 ⟨v, rfl, hr, hat, hb⟩
    obtain ⟨A', c', rfl⟩ := hr.shape
    rw [List.length_map] at hr hat ⊢
    have tr := HR0.out.below hb
    have r0 : w1.cell? ⟨w.heap.size + 1, 0, none⟩ = some (.slice none 0 0) := tr.cell 0
    have r1 : w1.cell? ⟨w.heap.size + 1, 1, none⟩ = some (.slice none 0 0) := tr.cell 1
    have r2 : w1.cell? ⟨w.heap.size + 1, 2, none⟩ = some (.bool false) := tr.cell 2
    have f0 := tr.free 0
    have f1 := tr.free 1
    have f2 := tr.free 2
    have HR := Lib.hid (And.intro hr (And.intro hat hb))
    clear hr hat hb tr
    go_wp2_with fail
    obtain ⟨hr, hat, hb⟩ := HR.out
    have hs := HS0.out
    have hlt : ∀ b, W0.heap.size ≤ b → b ≠ w.heap.size + 1 := fun b hb => by omega
    have hr3 : Row (((w1.setCell ⟨w.heap.size + 1, 0, none⟩ (.slice A' im.length c')).setCell ⟨w.heap.size + 1, 1, none⟩ (.slice none 0 0)).setCell ⟨w.heap.size + 1, 2, none⟩ (.bool false)) (.slice A' im.length c') (im.map strV) :=
      Row.frame hr hat (fun b hb _ => by rw [heap_setCell_far _ _ _ _ (hlt b hb), heap_setCell_far _ _ _ _ (hlt b hb), heap_setCell_far _ _ _ _ (hlt b hb)]) (by simp)
    refine bodyPost_ret (v := .tuple #[.agg #[.slice A' im.length c', .slice none 0 0, .bool false], .int .i64 0]) (by simp [results, Try.results25, go_sem, r0, r1, r2]) rfl ⟨_, rfl, DiskV.row hr3, ?_⟩
    exact (((below_trans HB0.out hb HB0.out.size).setCell (p := ⟨w.heap.size + 1, 0, none⟩) (by simp) _).setCell (p := ⟨w.heap.size + 1, 1, none⟩) (by simp) _).setCell (p := ⟨w.heap.size + 1, 2, none⟩) (by simp) _

/-- a disk alone -/
def RetD (w : World) (d : DiskW) (e : Ending) (w' : World) : Prop := ∃ v, e = .returned v ∧ DiskV w' v d ∧ Below w.heap.size w w'
set_option maxHeartbeats 1000000 in
theorem disk_Crash (d : DiskW) (v kv : Value) (keep : List Bool) (w : World) (hv : DiskV w v d) (hok : OkD d) (hkv : Row w kv (keep.map Value.bool)) (hkl : keep.length ≤ 140737488351232) :
    Calls Try.prog 27 #[v, kv] w (RetD w ⟨crashL d keep, [], false⟩) := by
  obtain ⟨A, c, B, eb, rfl, hk, hp⟩ := hv
  obtain ⟨K, kc, rfl⟩ := hkv.shape
  rw [List.length_map] at hkv ⊢
  obtain ⟨W0, hW0⟩ : ∃ W, W = ((w.alloc (.cells #[.slice A d.kept.length c, .slice B d.w.length eb, .bool d.off] 25)).alloc (.cells #[.slice K keep.length kc] 43)).alloc (.cells #[.slice none 0 0, .slice none 0 0, .bool false] 25) := ⟨_, rfl⟩
  have hb0 : Below w.heap.size w W0 := by rw [hW0]; exact (((Below.refl _ _).alloc (Nat.le_refl _) _).alloc (by simp) _).alloc (by simp; omega) _
  have hs0 : W0.heap.size = w.heap.size + 3 := by rw [hW0]; simp
  have tk0 : TBox W0 (w.heap.size + 1) 43 #[.slice K keep.length kc] := by
    rw [hW0]
    have := TBox.new (w.alloc (.cells #[.slice A d.kept.length c, .slice B d.w.length eb, .bool d.off] 25)) 43 #[.slice K keep.length kc]
    rw [World.size_alloc] at this
    exact this.alloc _
  have HR0 := Lib.hid (show TBox W0 (w.heap.size + 1 + 1) 25 #[.slice none 0 0, .slice none 0 0, .bool false] from by
    rw [hW0]
    have := TBox.new ((w.alloc (.cells #[.slice A d.kept.length c, .slice B d.w.length eb, .bool d.off] 25)).alloc (.cells #[.slice K keep.length kc] 43)) 25 #[.slice none 0 0, .slice none 0 0, .bool false]
    rw [World.size_alloc, World.size_alloc] at this
    exact this)
  have hkv0 := hkv.below hb0
  have HC := Lib.hid (callsIn_wide.1 (done_keep 4 (Nat.le_refl _) d (w.heap.size + 1) A c B eb (keepP keep) W0 (hk.below hb0) (hp.below hb0) hok
    (fun S W hS hW => let_keep (w.heap.size + 1) K kc keep S W (tk0.keepD hW (by show _ < _; omega)) (hS _ (by omega)) (Row.keepD hkv0 (hkv0.lies) hW) (hkv0.lies.mono fun b hb => hS b hb) hkl)))
  have HW := Lib.hid hW0
  have HB0 := Lib.hid hb0
  have HS0 := Lib.hid hs0
  unfold crashL
  generalize doneL d.kept (lets d.kept.length (keepP keep) 0 d.w) = im at *
  clear hk hp hkv hW0 hb0 hs0 tk0 hkv0
  go_enter Try.func27, Try.ntmps27
  go_wp2_with fail
  rw [← HW.out]
  refine HC.out.mono ?_
  rintro e w1 ⟨v, rfl, hr, hat, hb⟩
  obtain ⟨A', c', rfl⟩ := hr.shape
  rw [List.length_map] at hr hat ⊢
  have tr := HR0.out.below hb
  have r0 : w1.cell? ⟨w.heap.size + 1 + 1, 0, none⟩ = some (.slice none 0 0) := tr.cell 0
  have r1 : w1.cell? ⟨w.heap.size + 1 + 1, 1, none⟩ = some (.slice none 0 0) := tr.cell 1
  have r2 : w1.cell? ⟨w.heap.size + 1 + 1, 2, none⟩ = some (.bool false) := tr.cell 2
  have f0 := tr.free 0
  have f1 := tr.free 1
  have f2 := tr.free 2
  have HR := Lib.hid (And.intro hr (And.intro hat hb))
  clear hr hat hb tr
  go_wp2_with fail
  obtain ⟨hr, hat, hb⟩ := HR.out
  have hs := HS0.out
  have hlt : ∀ b, W0.heap.size ≤ b → b ≠ w.heap.size + 1 + 1 := fun b hb => by omega
  have hr3 : Row (((w1.setCell ⟨w.heap.size + 1 + 1, 0, none⟩ (.slice A' im.length c')).setCell ⟨w.heap.size + 1 + 1, 1, none⟩ (.slice none 0 0)).setCell ⟨w.heap.size + 1 + 1, 2, none⟩ (.bool false)) (.slice A' im.length c') (im.map strV) :=
    Row.frame hr hat (fun b hb _ => by rw [heap_setCell_far _ _ _ _ (hlt b hb), heap_setCell_far _ _ _ _ (hlt b hb), heap_setCell_far _ _ _ _ (hlt b hb)]) (by simp)
  refine bodyPost_ret (v := .agg #[.slice A' im.length c', .slice none 0 0, .bool false]) (by simp [results, Try.results27, go_sem, r0, r1, r2]) rfl ⟨_, rfl, DiskV.row hr3, ?_⟩
  exact (((below_trans HB0.out hb HB0.out.size).setCell (p := ⟨w.heap.size + 1 + 1, 0, none⟩) (by simp; omega) _).setCell (p := ⟨w.heap.size + 1 + 1, 1, none⟩) (by simp; omega) _).setCell (p := ⟨w.heap.size + 1 + 1, 2, none⟩) (by simp; omega) _
end Go.Proofs.Ytahnkkmngbckdaa
