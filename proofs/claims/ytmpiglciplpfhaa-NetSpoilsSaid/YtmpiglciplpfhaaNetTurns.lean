/- What Send, Take and Spoil make of a row: they answer as the document says; only the row of their own turns. -/
import Derived.Test.YtmpiglciplpfhaaNet
import Derived.BigRegion
import Derived.IntWalk
set_option linter.unusedVariables false
namespace Go.Proofs.Ytmpiglciplpfhaa
open Go.RowKit Copyhold
attribute [local go_sem] piece

/-- what a closure leaves of its own row -/
def RetOwn (W : World) (g : Nat) (out : List Value) (e : Ending) (W' : World) : Prop := ∃ v, e = .returned v ∧ W'.ownsRow g 9 1 v out.length out ∧ W.grownBy W' (some g)

theorem only_alloc {a w : World} {row : Option Nat} (h : a.grownBy w row) (o : Obj) : a.grownBy (w.alloc o) row :=
  ⟨h.os, h.tape, h.output, Nat.le_trans h.size (by simp), fun i hi hne => (Below.heap_alloc w o i (Nat.lt_of_lt_of_le hi h.size)).trans (h.block i hi hne)⟩

theorem grown_trans' {a b c : World} {row : Option Nat} (h : a.grownBy b row) (k : b.grownBy c row) : a.grownBy c row :=
  ⟨k.os.trans h.os, k.tape.trans h.tape, k.output.trans h.output, Nat.le_trans h.size k.size, fun i hi hne => (k.block i (Nat.lt_of_lt_of_le hi h.size) hne).trans (h.block i hi hne)⟩

set_option maxHeartbeats 1000000 in
theorem send_turn (W : World) (g b : Nat) (xs : List Value) (s : List UInt8) (hg : W.heap[g]? = some (.cells xs.toArray 9 (0, 0))) (hl : xs.length ≤ 1048576) (hc : W.cell? ⟨b, 0, none⟩ = some (strV s)) (hb : b < W.heap.size) :
    Calls Try.prog 23 #[.slice (some ⟨g, 0, none⟩) xs.length xs.length, .pointer (some ⟨b, 0, none⟩)] W (RetOwn W g (xs ++ [strV s])) := by
  have hgl : g < W.heap.size := (Array.getElem?_eq_some_iff.1 hg).1
  have hown := (owns_block (base := g) (Nat.le_refl _) hg (by unfold maxLen; omega)).alloc (.cells #[strV s] 9)
  have hsrc : Sl (W.alloc (.cells #[strV s] 9)) 1 (.slice (some ⟨W.heap.size, 0, none⟩) 1 1) 1 [strV s] := ⟨_, 1, rfl, Nat.le_refl _, rfl, fun _ => ⟨W.heap.size, 0, rfl, by simp, fun j x hx => by
    cases j with
    | zero => simp at hx; subst hx; simp [go_sem]
    | succ j => simp at hx⟩⟩
  obtain ⟨v', w', hrun, ho, hgr, _⟩ := append_sl strElem (W.alloc (.cells #[strV s] 9)) g 22 _ _ _ hown _ 1 [strV s] hsrc (fun u hu => by simp at hu; subst hu; rfl) (by unfold maxLen; omega) (by omega) (by simp; omega)
  have HO := Lib.hid ho
  have hgr' : W.grownBy w' (some g) := grown_trans' (only_alloc (World.grownBy.refl W _) _) hgr
  have HG := Lib.hid hgr'
  have hc' : W.cell? ⟨b, 0, none⟩ = some (.string ⟨s.toArray⟩) := hc
  clear ho hgr hgr' hown hsrc hg hc
  unfold strV at hrun
  go_enter Try.func23, Try.ntmps23
  go_wp2_with (at_builtin; refine wpList_append_run rfl _ _ _ rfl _ _ _ _ rfl rfl hrun ?_)
  go_ret
  exact ⟨v', rfl, by rw [List.length_append]; exact HO.out, HG.out⟩

theorem spoil_cells (l : List UInt8) (a : Nat) (c : UInt8) : (Lib.byteCells l).set a (.int .u8 (c.toNat : Int)) = Lib.byteCells (l.set a c) := by
  unfold Lib.byteCells
  rw [List.map_set]

set_option maxHeartbeats 1000000 in
theorem spoil_turn (W : World) (g b b' h : Nat) (cb : Nat) (xs : List Value) (i : Nat) (l : List UInt8) (hg : W.heap[g]? = some (.cells xs.toArray 9 (0, 0))) (hl : xs.length ≤ 8796093022208) (hi : i < xs.length)
    (hc : W.cell? ⟨b, 0, none⟩ = some (.slice (some ⟨h, 0, none⟩) l.length cb)) (hh : ∀ j, j < l.length → W.cell? ⟨h, j, none⟩ = some (.int .u8 ((l.getD j 0).toNat : Int))) (hc' : W.cell? ⟨b', 0, none⟩ = some (.int .i64 i)) :
    Calls Try.prog 22 #[.slice (some ⟨g, 0, none⟩) xs.length xs.length, .pointer (some ⟨b, 0, none⟩), .pointer (some ⟨b', 0, none⟩)] W (RetOwn W g (xs.set i (strV l))) := by
  have hgl : g < W.heap.size := (Array.getElem?_eq_some_iff.1 hg).1
  have hown := owns_block (base := g) (Nat.le_refl _) hg (by unfold maxLen; omega)
  have hfr := hown.frozenAt i
  have hcu : W.cell? ⟨g, i, none⟩ = some xs[i] := by rw [hown.cellAt i (by omega), List.getElem?_eq_getElem hi]
  have hst := (hown.stored i (strV l)).1
  have hcv : (convert 49 9 (.slice (some ⟨h, 0, none⟩) l.length cb)).run Try.prog W = .ok (.string ⟨l.toArray⟩) W :=
    run_convert_bytes_back W _ _ 5 _ _ l rfl rfl rfl fun j hj => by
      rw [add_plain', Nat.zero_add, hh j hj]
      simp [hj]
  have HST := Lib.hid hst
  have hgr : W.grownBy (W.setCell ⟨g, i, none⟩ (strV l)) (some g) := ⟨rfl, rfl, rfl, by simp, fun k hk hne => heap_setCell_far W _ _ k (fun e => hne (by rw [e]))⟩
  have HG := Lib.hid hgr
  clear hst hgr hown hg hh
  unfold strV at HST HG
  go_enter Try.func22, Try.ntmps22
  go_wp2_with fail
  go_ret
  exact ⟨_, rfl, by rw [List.length_set]; exact HST.out, HG.out⟩

set_option maxHeartbeats 1000000 in
theorem take_turn (W : World) (g b : Nat) (xs : List Value) (i : Nat) (hg : W.heap[g]? = some (.cells xs.toArray 9 (0, 0))) (hl : xs.length ≤ 8796093022208) (hi : i < xs.length) (h1 : ∀ u ∈ xs, u.oneCell' = true)
    (hc : W.cell? ⟨b, 0, none⟩ = some (.int .i64 i)) :
    Calls Try.prog 20 #[.slice (some ⟨g, 0, none⟩) xs.length xs.length, .pointer (some ⟨b, 0, none⟩)] W (RetOwn W g (xs.eraseIdx i)) := by
  have hgl : g < W.heap.size := (Array.getElem?_eq_some_iff.1 hg).1
  obtain ⟨ht, hinf, hzs, hsz⟩ := strElem
  obtain ⟨ti, hti, htz, htsize, htby⟩ := info_of hinf
  have hg' : W.drew.heap[g]? = some (.cells xs.toArray 9 (0, 0)) := hg
  have hcells : ∀ j u, xs[j]? = some u → W.drew.cell? ⟨g, j, none⟩ = some u := by
    intro j u hu
    simp only [World.cell?, hg']
    simpa using hu
  have hnl : (xs.drop (i + 1)).length = (xs.length - (i + 1)) * ti.size := by rw [htsize]; simp
  have herase : (xs.toArray.toList.take (i * ti.size) ++ xs.drop (i + 1) ++ xs.toArray.toList.drop (i * ti.size + (xs.drop (i + 1)).length)) = xs.eraseIdx i ++ xs.drop (xs.length - 1) := by
    rw [htsize, Nat.mul_one, List.eraseIdx_eq_take_drop_succ, List.length_drop, show i + (xs.length - (i + 1)) = xs.length - 1 from by omega]
  have hel : (xs.eraseIdx i).length = i + (xs.length - (i + 1)) := by rw [List.length_eraseIdx_of_lt hi]; omega
  have hown : ∀ W' : World, W'.heap[g]? = some (.cells (xs.eraseIdx i ++ xs.drop (xs.length - 1)).toArray 9 (0, 0)) → W'.ownsRow g 9 1 (.slice (some ⟨g, 0, none⟩) (i + (xs.length - (i + 1))) xs.length) (xs.eraseIdx i).length (xs.eraseIdx i) := fun W' hh => by
    rw [hel]
    refine ⟨by simp [hel], .inr ⟨g, xs.length, _, rfl, Nat.le_refl _, hh, by omega, by unfold maxLen; omega, by simp [hel]; omega, ?_⟩⟩
    simp [← hel]
  have hgr : W.grownBy (W.drew.setRow g (xs.eraseIdx i ++ xs.drop (xs.length - 1)).toArray) (some g) := ⟨rfl, rfl, rfl, by simp, fun k hk hne => setRow_other W.drew g k _ (fun e => hne (by rw [e]))⟩
  have hend := hown _ (setRow_heap W.drew g _ _ _ _ hg')
  have HEND := Lib.hid (And.intro hend hgr)
  have hil : (i : Int) ≤ (xs.length : Int) := by omega
  have hi1 : (i : Int) + 1 ≤ (xs.length : Int) := by omega
  by_cases hlast : i + 1 = xs.length
  · have hrun := run_append_room (P := Try.prog) W.drew 22 22 9 ti ht hti g i xs.length xs.toArray hg' ⟨g, 0, none⟩ (xs.length - (i + 1)) 0 (xs.drop (i + 1)) hnl (fun j u hu => by rw [List.drop_eq_nil_of_le (by omega)] at hu; simp at hu) (fun u hu => h1 u (List.mem_of_mem_drop hu)) (by omega) (by rw [htsize]; simp; omega)
    rw [herase, show xs.length - (i + 1) = 0 from by omega] at hrun
    rw [show xs.length - (i + 1) = 0 from by omega] at HEND
    obtain ⟨W2, hW2⟩ : ∃ W2, W2 = W.drew.setRow g (xs.eraseIdx i ++ xs.drop (xs.length - 1)).toArray := ⟨_, rfl⟩
    rw [← hW2] at hrun HEND
    clear hnl herase hel hown hgr hend hcells hg' hW2 hg htz htsize htby hti ht hinf hzs
    generalize xs.length = n at *
    subst hlast
    clear hil hi1
    have hii : (i : Int) ≤ (i : Int) + 1 := by omega
    have hwr : IntKind.i64.wrap ((i : Int) + 1) = (i : Int) + 1 := IntWalk.i64_in _ (by omega)
    have hp0 : (0 : Int) ≤ (i : Int) + 1 := by omega
    have hpi : (0 : Int) ≤ (i : Int) := by omega
    have htn : ((i : Int) + 1).toNat = i + 1 := by omega
    go_enter Try.func20, Try.ntmps20
    go_wp2_with fail
    go_region_law (refine step_append_run rfl _ _ _ rfl _ _ _ _ rfl rfl hrun ?_)
    all_goals
      go_wp2_with fail
      go_ret
      exact ⟨_, rfl, HEND.out.1, HEND.out.2⟩
  · have hrun := run_append_room (P := Try.prog) W.drew 22 22 9 ti ht hti g i xs.length xs.toArray hg' ⟨g, i + 1, none⟩ (xs.length - (i + 1)) (xs.length - (i + 1)) (xs.drop (i + 1)) hnl (fun j u hu => by rw [add_plain']; exact hcells _ _ (by rw [← hu, List.getElem?_drop])) (fun u hu => h1 u (List.mem_of_mem_drop hu)) (by omega) (by rw [htsize]; simp; omega)
    rw [herase] at hrun
    obtain ⟨W2, hW2⟩ : ∃ W2, W2 = W.drew.setRow g (xs.eraseIdx i ++ xs.drop (xs.length - 1)).toArray := ⟨_, rfl⟩
    rw [← hW2] at hrun HEND
    have hlt' : (i : Int) + 1 < (xs.length : Int) := by omega
    have hlt2 : i + 1 < xs.length := by omega
    clear hnl herase hel hown hgr hend hcells hg' hW2 hg htz htsize htby hti ht hinf hzs
    generalize xs.length = n at *
    clear hlast
    have hwr : IntKind.i64.wrap ((i : Int) + 1) = (i : Int) + 1 := IntWalk.i64_in _ (by omega)
    have hp0 : (0 : Int) ≤ (i : Int) + 1 := by omega
    have hpi : (0 : Int) ≤ (i : Int) := by omega
    have hne : ¬ (n = i + 1) := by omega
    have htn : ((i : Int) + 1).toNat = i + 1 := by omega
    go_enter Try.func20, Try.ntmps20
    go_wp2_with fail
    go_region_law (refine step_append_run rfl _ _ _ rfl _ _ _ _ rfl rfl hrun ?_)
    all_goals
      go_wp2_with fail
      go_ret
      exact ⟨_, rfl, HEND.out.1, HEND.out.2⟩
end Go.Proofs.Ytmpiglciplpfhaa
