/- net.row, net.turned and what turns a row in them: they answer as the document says; old memory is as it was. -/
import Derived.Test.YtmpiglciplpfhaaRows
import Derived.Test.YtmpiglciplpfhaaMem
import Derived.Shelf.Abstract
import Derived.RegionTactic
import Derived.Deep.QuietTactic
import Derived.BigQuiet
import Derived.Deep.RegionWith
set_option linter.unusedVariables false
namespace Go.Proofs.Ytmpiglciplpfhaa
open Go.RowKit Copyhold

theorem strElem : Elem Try.prog 22 9 (.string ByteArray.empty) 1 16 := ⟨by kernel_rfl, by kernel_rfl, rfl, by decide⟩

/-- a net as a value -/
def netV (u d : Value) : Value := .agg #[u, d]
def pickV (up : Bool) (u d : Value) : Value := if up then u else d
def pickD {α : Type} (up : Bool) (u d : α) : α := if up then u else d

theorem net_row_at (up : Bool) (A B : Option Addr) (n m c d : Nat) (w : World) :
    Calls Try.prog 18 #[.agg #[.slice A n c, .slice B m d], .bool up] w fun e w' => e = .returned (pickV up (.slice A n c) (.slice B m d)) ∧ w' = w.alloc (.cells #[.slice A n c, .slice B m d] 24) := by
  cases up
  all_goals
    go_enter Try.func18, Try.ntmps18
    go_wp2_with fail
    go_ret
    exact ⟨rfl, rfl⟩

theorem net_row (up : Bool) (A B : Option Addr) (n m c d : Nat) (w : World) :
    Calls Try.prog 18 #[.agg #[.slice A n c, .slice B m d], .bool up] w fun e w' => e = .returned (pickV up (.slice A n c) (.slice B m d)) ∧ Below w.heap.size w w' :=
  (net_row_at up A B n m c d w).mono fun _ _ ⟨he, hw⟩ => ⟨he, by rw [hw]; exact (Below.refl _ _).alloc (Nat.le_refl _) _⟩

/-- what a net turned in one row is -/
def RetNet (w : World) (up : Bool) (uv dv : Value) (out : List Value) (e : Ending) (w' : World) : Prop :=
  ∃ v, e = .returned (if up then .agg #[v, dv] else .agg #[uv, v]) ∧ Row w' v out ∧ At (w.heap.size ≤ ·) v ∧ Below w.heap.size w w'

set_option maxHeartbeats 1000000 in
theorem net_turned (up : Bool) (A B : Option Addr) (n m c d : Nat) (us ds out : List Value) (F : FuncId) (caps : Array Value) (w : World)
    (eg : ∀ args w, (callFunc F args).run Try.prog w = .ok (.enter F args) w) (hu : Row w (.slice A n c) us) (hd : Row w (.slice B m d) ds) (h1 : ∀ u ∈ us ++ ds, u.oneCell' = true) (hun : us.length ≤ 8796093022208) (hdn : ds.length ≤ 8796093022208)
    (hf : ∀ (W : World) (g : Nat), Below w.heap.size w W → w.heap.size ≤ g → W.heap[g]? = some (.cells (pickD up us ds).toArray 9 (0, 0)) →
      Calls Try.prog F (#[.slice (some ⟨g, 0, none⟩) (pickD up us ds).length (pickD up us ds).length] ++ caps) W fun e W' => ∃ v, e = .returned v ∧ W'.ownsRow g 9 1 v out.length out ∧ W.grownBy W' (some g)) :
    Calls Try.prog 19 #[.agg #[.slice A n c, .slice B m d], .bool up, .func (.func F) #[] caps] w (RetNet w up (.slice A n c) (.slice B m d) out) := by
  have HF := Lib.hid hf
  have HU := Lib.hid hu
  have HD := Lib.hid hd
  clear hf hu hd
  obtain ⟨hlu, hld⟩ : us.length = n ∧ ds.length = m := by
    obtain ⟨_, _, h⟩ := HU.out.shape
    obtain ⟨_, _, h'⟩ := HD.out.shape
    simp only [Value.slice.injEq] at h h'
    exact ⟨h.2.1.symm, h'.2.1.symm⟩
  have HLU := Lib.hid hlu
  have HLD := Lib.hid hld
  rw [hlu] at hun
  rw [hld] at hdn
  have H1 := Lib.hid h1
  clear hlu hld h1
  cases up
  · obtain ⟨W0, hW0⟩ : ∃ W0, W0 = (w.alloc (.cells #[.slice A n c, .slice B m d] 24)).alloc (.cells #[.slice none 0 0, .slice none 0 0] 24) := ⟨_, rfl⟩
    have hb0 : Below w.heap.size w W0 := by rw [hW0]; exact ((Below.refl _ _).alloc (Nat.le_refl _) _).alloc (by simp) _
    have hs0 : W0.heap.size = w.heap.size + 2 := by rw [hW0]; simp
    have hcA : W0.cell? ⟨w.heap.size, 0, none⟩ = some (.slice A n c) := by rw [hW0]; simp [go_sem]
    have hfA : W0.frozen? ⟨w.heap.size + 1, 0, none⟩ = false := by rw [hW0]; simp [go_sem]
    have hfB : W0.frozen? ⟨w.heap.size + 1, 1, none⟩ = false := by rw [hW0]; simp [go_sem]
    have hcC : W0.cell? ⟨w.heap.size + 1, 0, none⟩ = some (.slice none 0 0) := by rw [hW0]; simp [go_sem]
    have hcD : W0.cell? ⟨w.heap.size + 1, 1, none⟩ = some (.slice none 0 0) := by rw [hW0]; simp [go_sem]
    have HW := Lib.hid hW0
    clear hW0
    go_enter Try.func19, Try.ntmps19
    go_wp2_with fail
    rw [← HW.out]
    refine (net_row false A B n m c d _).mono ?_
    rintro e w1 ⟨rfl, hb1⟩
    simp only [pickV, Bool.false_eq_true, if_false]
    have hmk := make_one strElem rfl m (by omega) (by omega) w1
    have hg2 := heap_alloc_new w1 (.cells (List.replicate m (Value.string ByteArray.empty)).toArray 9)
    have hb2 := hb1.alloc hb1.size (.cells (List.replicate m (Value.string ByteArray.empty)).toArray 9)
    have hs2 : (w1.alloc (.cells (List.replicate m (Value.string ByteArray.empty)).toArray 9)).heap.size = w1.heap.size + 1 := by simp
    obtain ⟨w2, hw2⟩ : ∃ w2, w2 = w1.alloc (.cells (List.replicate m (Value.string ByteArray.empty)).toArray 9) := ⟨_, rfl⟩
    rw [← hw2] at hmk hg2 hb2 hs2
    have hr2 := (Sl.of_row ((HD.out.below hb0).below hb1)).below (show Below w1.heap.size w1 w2 by rw [hw2]; exact (Below.refl _ _).alloc (Nat.le_refl _) _)
    rw [HLD.out] at hr2
    obtain ⟨w3, hcp, hg3, hk3, hb3⟩ := copy_new (P := Try.prog) w2 22 22 3 9 w1.heap.size m m (List.replicate m (Value.string ByteArray.empty)) 9 (.slice B m d) ds rfl rfl hg2 (by simp) hr2 (fun u hu => H1.out u (by simp [hu]))
    rw [List.drop_eq_nil_of_le (by simp), List.append_nil] at hg3
    have hb3' : Below W0.heap.size W0 w3 := hb2.trans (hb3.mono (by have := hb1.size; omega))
    have hs1 := hb1.size
    have HC := Lib.hid (HF.out w3 w1.heap.size (hb0.trans (hb3'.mono hb0.size)) (by omega) hg3)
    have HB3 := Lib.hid hb3'
    have HS3 := Lib.hid hb3.size
    clear hg2 hb2 hr2 hg3 hk3 hb3 hb3' hw2
    go_wp2_with fail
    have hcall := HC.out
    simp only [pickD, Bool.false_eq_true, if_false, HLD.out] at hcall
    refine hcall.mono ?_
    rintro e w4 ⟨v, rfl, hrow, hgr⟩
    clear hcall
    have hb4 : Below W0.heap.size W0 w4 := ⟨hgr.os.trans HB3.out.os, hgr.tape.trans HB3.out.tape, hgr.output.trans HB3.out.output, Nat.le_trans HB3.out.size hgr.size, fun k hk => (hgr.block k (by have := HB3.out.size; omega) (by intro e; simp at e; omega)).trans (HB3.out.block k hk)⟩
    obtain ⟨hc4, hf4⟩ := bcell hb4
    rw [hs0] at hc4 hf4
    have HROW := Lib.hid hrow
    have HB4 := Lib.hid hb4
    obtain ⟨A', c', rfl, -, -⟩ := (Sl.of_owns hrow).shape
    clear hrow hgr hb4
    go_wp2_with fail
    refine bodyPost_ret (v := .agg #[.slice A n c, .slice A' out.length c']) (by simp [results, Try.results19, go_sem, hc4, hcC, hcD]) rfl ⟨_, rfl, ?_, ?_, ?_⟩
    · exact Row.of_owns (owns_setCell (owns_setCell HROW.out _ _ (by simp; omega)) _ _ (by simp; omega))
    · exact (At.of_owns HROW.out).mono fun b hb => by omega
    · exact ((hb0.trans (HB4.out.mono hb0.size)).setCell (by simp) _).setCell (by simp) _
  · obtain ⟨W0, hW0⟩ : ∃ W0, W0 = (w.alloc (.cells #[.slice A n c, .slice B m d] 24)).alloc (.cells #[.slice none 0 0, .slice none 0 0] 24) := ⟨_, rfl⟩
    have hb0 : Below w.heap.size w W0 := by rw [hW0]; exact ((Below.refl _ _).alloc (Nat.le_refl _) _).alloc (by simp) _
    have hs0 : W0.heap.size = w.heap.size + 2 := by rw [hW0]; simp
    have hcA : W0.cell? ⟨w.heap.size, 1, none⟩ = some (.slice B m d) := by rw [hW0]; simp [go_sem]
    have hfA : W0.frozen? ⟨w.heap.size + 1, 0, none⟩ = false := by rw [hW0]; simp [go_sem]
    have hfB : W0.frozen? ⟨w.heap.size + 1, 1, none⟩ = false := by rw [hW0]; simp [go_sem]
    have hcC : W0.cell? ⟨w.heap.size + 1, 0, none⟩ = some (.slice none 0 0) := by rw [hW0]; simp [go_sem]
    have hcD : W0.cell? ⟨w.heap.size + 1, 1, none⟩ = some (.slice none 0 0) := by rw [hW0]; simp [go_sem]
    have HW := Lib.hid hW0
    clear hW0
    go_enter Try.func19, Try.ntmps19
    go_wp2_with fail
    rw [← HW.out]
    refine (net_row true A B n m c d _).mono ?_
    rintro e w1 ⟨rfl, hb1⟩
    simp only [pickV, if_true]
    have hmk := make_one strElem rfl n (by omega) (by omega) w1
    have hg2 := heap_alloc_new w1 (.cells (List.replicate n (Value.string ByteArray.empty)).toArray 9)
    have hb2 := hb1.alloc hb1.size (.cells (List.replicate n (Value.string ByteArray.empty)).toArray 9)
    have hs2 : (w1.alloc (.cells (List.replicate n (Value.string ByteArray.empty)).toArray 9)).heap.size = w1.heap.size + 1 := by simp
    obtain ⟨w2, hw2⟩ : ∃ w2, w2 = w1.alloc (.cells (List.replicate n (Value.string ByteArray.empty)).toArray 9) := ⟨_, rfl⟩
    rw [← hw2] at hmk hg2 hb2 hs2
    have hr2 := (Sl.of_row ((HU.out.below hb0).below hb1)).below (show Below w1.heap.size w1 w2 by rw [hw2]; exact (Below.refl _ _).alloc (Nat.le_refl _) _)
    rw [HLU.out] at hr2
    obtain ⟨w3, hcp, hg3, hk3, hb3⟩ := copy_new (P := Try.prog) w2 22 22 3 9 w1.heap.size n n (List.replicate n (Value.string ByteArray.empty)) 9 (.slice A n c) us rfl rfl hg2 (by simp) hr2 (fun u hu => H1.out u (by simp [hu]))
    rw [List.drop_eq_nil_of_le (by simp), List.append_nil] at hg3
    have hb3' : Below W0.heap.size W0 w3 := hb2.trans (hb3.mono (by have := hb1.size; omega))
    have hs1 := hb1.size
    have HC := Lib.hid (HF.out w3 w1.heap.size (hb0.trans (hb3'.mono hb0.size)) (by omega) hg3)
    have HB3 := Lib.hid hb3'
    have HS3 := Lib.hid hb3.size
    clear hg2 hb2 hr2 hg3 hk3 hb3 hb3' hw2
    go_wp2_with fail
    have hcall := HC.out
    simp only [pickD, if_true, HLU.out] at hcall
    refine hcall.mono ?_
    rintro e w4 ⟨v, rfl, hrow, hgr⟩
    clear hcall
    have hb4 : Below W0.heap.size W0 w4 := ⟨hgr.os.trans HB3.out.os, hgr.tape.trans HB3.out.tape, hgr.output.trans HB3.out.output, Nat.le_trans HB3.out.size hgr.size, fun k hk => (hgr.block k (by have := HB3.out.size; omega) (by intro e; simp at e; omega)).trans (HB3.out.block k hk)⟩
    obtain ⟨hc4, hf4⟩ := bcell hb4
    rw [hs0] at hc4 hf4
    have HROW := Lib.hid hrow
    have HB4 := Lib.hid hb4
    obtain ⟨A', c', rfl, -, -⟩ := (Sl.of_owns hrow).shape
    clear hrow hgr hb4
    go_wp2_with fail
    refine bodyPost_ret (v := .agg #[.slice A' out.length c', .slice B m d]) (by simp [results, Try.results19, go_sem, hc4, hcC, hcD]) rfl ⟨_, rfl, ?_, ?_, ?_⟩
    · exact Row.of_owns (owns_setCell (owns_setCell HROW.out _ _ (by simp; omega)) _ _ (by simp; omega))
    · exact (At.of_owns HROW.out).mono fun b hb => by omega
    · exact ((hb0.trans (HB4.out.mono hb0.size)).setCell (by simp) _).setCell (by simp) _
end Go.Proofs.Ytmpiglciplpfhaa
