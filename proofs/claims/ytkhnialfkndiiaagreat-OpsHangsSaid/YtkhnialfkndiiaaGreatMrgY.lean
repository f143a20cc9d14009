/- Bytes that a call owns, whatever stands behind their end: made of a text, grown by one, stored into. Over this program's tables of bytes alone. copyholdref09.Read: it answers as the document says; old memory is as it was. Texts written over, byte by byte (as in DataSplit; without the law). No conditions beyond each law's own. copyholdref09.Cut, copyholdref09.Write: they answer as the document says; old memory is as it was. copyholdref09.Write: it answers as the document says; old memory is as it was. ref09.Read, Write, Cut; ref07.Size over data. ref11.refused, texts, made, taken over data. ref11.made, taken over data. ref11.Do over data. ref11.Small over data. Rules for a certificate's open nodes: 'make(S, n)': a row of one's own of n noughts. Over any program. Some calls, one behind the other. ref01.Strings, ref11.Same, All over data. ops.Same, ref11.Ints over data. -/
import Derived.Test.YtkhnialfkndiiaaGreatMrgV
import Derived.Test.YtkhnialfkndiiaaGreatMrgA
import Derived.ArgAppend
import Derived.Test.YtkhnialfkndiiaaGreatMrgX
import Derived.Test.YtkhnialfkndiiaaGreatMrgW
import Derived.Test.YtkhnialfkndiiaaGreatOpsD11
import Derived.Test.YtkhnialfkndiiaaGreatMrgI
set_option maxRecDepth 100000
set_option maxHeartbeats 8000000
set_option linter.unusedVariables false
set_option maxRecDepth 100000
namespace Go.Proofs.YtkhnialfkndiiaaGreat
open Go.RowKit Copyhold
theorem byteElem : Elem Tryz.prog 144 5 (.int .u8 0) 1 1 := ⟨by kernel_rfl, by kernel_rfl, rfl, by decide⟩
def byteV (b : UInt8) : Value := .int .u8 (b.toNat : Int)
def Brow (w : World) (base : Nat) (v : Value) (l : List UInt8) : Prop :=
  (v = .slice none 0 0 ∧ l = []) ∨ ∃ g cap, v = .slice (some ⟨g, 0, none⟩) l.length cap ∧ base ≤ g ∧ g < w.heap.size ∧ l.length ≤ cap ∧ cap ≤ maxLen ∧
    (∀ j, j < cap → (w.cell? ⟨g, j, none⟩).isSome = true) ∧ (∀ j, j < cap → w.frozen? ⟨g, j, none⟩ = false) ∧ ∀ j x, l[j]? = some x → w.cell? ⟨g, j, none⟩ = some (byteV x)
theorem Brow.shape {w : World} {base : Nat} {v : Value} {l : List UInt8} (h : Brow w base v l) : ∃ A c, v = .slice A l.length c := by
  rcases h with ⟨rfl, rfl⟩ | ⟨g, cap, rfl, _⟩
  · exact ⟨none, 0, rfl⟩
  · exact ⟨_, cap, rfl⟩
theorem Brow.alloc {w : World} {base : Nat} {v : Value} {l : List UInt8} (h : Brow w base v l) (o : Obj) : Brow (w.alloc o) base v l := by
  rcases h with h | ⟨g, cap, rfl, hb, hg, hl, hc, h1, h2, h3⟩
  · exact .inl h
  · refine .inr ⟨g, cap, rfl, hb, by simp; omega, hl, hc, fun j hj => ?_, fun j hj => ?_, fun j x hx => ?_⟩
    · rw [World.cell?_alloc_lt _ _ _ hg]; exact h1 j hj
    · rw [World.frozen?_of_block (Below.heap_alloc w o g hg)]; exact h2 j hj
    · rw [World.cell?_alloc_lt _ _ _ hg]; exact h3 j x hx
theorem Brow.back {w : World} {base : Nat} {v : Value} {l : List UInt8} (h : Brow w base v l) : (convert 144 9 v).run Tryz.prog w = .ok (.string ⟨l.toArray⟩) w := by
  rcases h with ⟨rfl, rfl⟩ | ⟨g, cap, rfl, hb, hg, hl, hc, h1, h2, h3⟩
  · exact run_convert_bytes_nil w 144 5 rfl rfl 0 0 9 rfl
  · exact run_convert_bytes_back w _ _ 5 _ _ l rfl rfl rfl fun j hj => by
      rw [add_plain', Nat.zero_add]
      exact h3 j _ (List.getElem?_eq_getElem hj)
theorem Brow.store {w : World} {base g cap : Nat} {l : List UInt8} (h : Brow w base (.slice (some ⟨g, 0, none⟩) l.length cap) l) (k : Nat) (x : UInt8) (hk : k < l.length) :
    base ≤ g ∧ (∃ u, w.cell? ⟨g, k, none⟩ = some u) ∧ w.frozen? ⟨g, k, none⟩ = false ∧ Brow (w.setCell ⟨g, k, none⟩ (byteV x)) base (.slice (some ⟨g, 0, none⟩) l.length cap) (l.set k x) := by
  rcases h with ⟨h, rfl⟩ | ⟨g', cap', he, hb, hg, hl, hc, h1, h2, h3⟩
  · simp at hk
  · simp only [Value.slice.injEq, Option.some.injEq, Addr.mk.injEq, and_true, true_and] at he
    obtain ⟨rfl, rfl⟩ := he
    have hc0 := h3 k l[k] (List.getElem?_eq_getElem hk)
    refine ⟨hb, ⟨_, hc0⟩, h2 k (by omega), .inr ⟨g, cap, by rw [List.length_set], hb, by simpa using hg, by rw [List.length_set]; exact hl, hc, fun j hj => ?_, fun j hj => ?_, fun j y hy => ?_⟩⟩
    · by_cases hjk : k = j
      · subst hjk; rw [World.cell?_setCell_same _ _ _ hc0]; rfl
      · rw [World.cell?_setCell_other _ _ _ _ (by intro e; simp at e <;> exact hjk e)]; exact h1 j hj
    · have := h2 j hj
      simpa [go_sem] using this
    · by_cases hjk : k = j
      · subst hjk
        rw [World.cell?_setCell_same _ _ _ hc0]
        rw [List.getElem?_set_self hk] at hy
        injection hy with hy
        subst hy
        rfl
      · rw [World.cell?_setCell_other _ _ _ _ (by intro e; simp at e <;> exact hjk e)]
        rw [List.getElem?_set_ne hjk] at hy
        exact h3 j y hy
theorem Brow.append {w : World} {base : Nat} {v : Value} {l : List UInt8} (h : Brow w base v l) (x : UInt8) (hl : l.length ≤ 1048576) (hbase : base ≤ w.heap.size) :
    ∃ v' w', (Builtin.append_ #[144, 144] 144 #[v, .slice (some ⟨w.heap.size, 0, none⟩) 1 1]).run Tryz.prog (w.alloc (.cells #[byteV x] 5)) = .ok v' w' ∧ Brow w' base v' (l ++ [x]) ∧ Below base w w' := by
  obtain ⟨ht, hinf, hzs, hsz⟩ := byteElem
  obtain ⟨i, hi, hz, hsize, hby⟩ := info_of hinf
  have hnews := cell_one_new w (byteV x) 5
  have hbW : Below base w (w.alloc (.cells #[byteV x] 5)) := (Below.refl _ _).alloc hbase _
  have h1c : ∀ u ∈ [byteV x], u.oneCell' = true := fun u hu => by simp at hu; subst hu; rfl
  have hnew : ∀ (W : World) (old : Nat), old < l.length + 1 → W.heap.size = w.heap.size + 1 → Below base w W → Brow (W.drew.alloc (.cells ((l.map byteV).toArray ++ #[byteV x] ++ Builtin.zeroCells (Value.int .u8 0).cells (grownCap W (l.length + 1) old 5 - (l.length + 1))) 5)) base
      (.slice (some ⟨W.heap.size, 0, none⟩) (l.length + 1) (grownCap W (l.length + 1) old 5)) (l ++ [x]) ∧ Below base w (W.drew.alloc (.cells ((l.map byteV).toArray ++ #[byteV x] ++ Builtin.zeroCells (Value.int .u8 0).cells (grownCap W (l.length + 1) old 5 - (l.length + 1))) 5)) := by
    intro W old ho hs hB
    have hge := grownCap_ge W (l.length + 1) old 5
    have hcm := grownCap_le_maxLen W (l.length + 1) old 5 (by unfold maxLen; omega)
    have hcell := cell_new W.drew ((l.map byteV).toArray ++ #[byteV x] ++ Builtin.zeroCells (Value.int .u8 0).cells (grownCap W (l.length + 1) old 5 - (l.length + 1))) 5
    have hcsz : ((l.map byteV).toArray ++ #[byteV x] ++ Builtin.zeroCells (Value.int .u8 0).cells (grownCap W (l.length + 1) old 5 - (l.length + 1))).size = grownCap W (l.length + 1) old 5 := by
      simp [size_zeroCells]
      have : (Value.int .u8 0).cells.size = 1 := rfl
      rw [this]
      omega
    refine ⟨.inr ⟨W.heap.size, _, by rw [List.length_append]; rfl, by rw [hs]; omega, by simp, by rw [List.length_append]; simpa using hge, hcm, fun j hj => ?_, fun j hj => ?_, fun j y hy => ?_⟩, ?_⟩
    · have := hcell j
      rw [show W.drew.heap.size = W.heap.size from rfl] at this
      rw [this, Array.getElem?_eq_getElem (by rw [hcsz]; exact hj)]
      rfl
    · have : (W.drew.alloc (.cells ((l.map byteV).toArray ++ #[byteV x] ++ Builtin.zeroCells (Value.int .u8 0).cells (grownCap W (l.length + 1) old 5 - (l.length + 1))) 5)).heap[W.heap.size]? = _ := heap_alloc_new W.drew _
      simp only [World.frozen?, this]
      simp
    · have := hcell j
      rw [show W.drew.heap.size = W.heap.size from rfl] at this
      rw [this]
      have hj := (List.getElem?_eq_some_iff.1 hy).1
      rw [List.length_append] at hj
      simp at hj
      have e : ((l.map byteV).toArray ++ #[byteV x]) = ((l ++ [x]).map byteV).toArray := by simp
      rw [e, Array.getElem?_append_left (by simp; omega), List.getElem?_toArray, List.getElem?_map, hy]
      rfl
    · exact (hB.drew).alloc (by show base ≤ W.heap.size; omega) _
  rcases h with ⟨rfl, rfl⟩ | ⟨g, cap, rfl, hb, hg, hlc, hc, h1, h2, h3⟩
  · have hr := run_append_nil (P := Tryz.prog) (w.alloc (.cells #[byteV x] 5)) 144 144 5 i (.int .u8 0) ht hi hz ⟨w.heap.size, 0, none⟩ 1 1 [byteV x] (by rw [hsize]; rfl) hnews (by omega) (by omega) (by rw [hby]; omega)
    have hn := hnew (w.alloc (.cells #[byteV x] 5)) 0 (by omega) (by simp) hbW
    simp only [List.map_nil, List.length_nil, Nat.zero_add] at hn
    exact ⟨_, _, hr, by simpa using hn.1, by simpa using hn.2⟩
  · by_cases hroom : l.length + 1 ≤ cap
    · have hA := (show Brow w base (.slice (some ⟨g, 0, none⟩) l.length cap) l from .inr ⟨g, cap, rfl, hb, hg, hlc, hc, h1, h2, h3⟩).alloc (.cells #[byteV x] 5)
      rcases hA with ⟨he, _⟩ | ⟨g', cap', he, hb', hg', hlc', hc', k1, k2, k3⟩
      · simp at he
      · simp only [Value.slice.injEq, Option.some.injEq, Addr.mk.injEq, and_true, true_and] at he
        obtain ⟨rfl, rfl⟩ := he
        have hr := run_append_room_cells (P := Tryz.prog) (w.alloc (.cells #[byteV x] 5)) 144 144 5 i ht hi g 0 l.length cap ⟨w.heap.size, 0, none⟩ 1 1 [byteV x] (by rw [hsize]; rfl) hnews h1c hroom
          (fun j hj => by simp at hj; subst hj; rw [hsize]; simpa using k1 l.length (by omega)) (fun j hj => by simp at hj; subst hj; rw [hsize]; simpa using k2 l.length (by omega))
        rw [hsize, Nat.mul_one, Nat.zero_add] at hr
        have hset : (w.alloc (.cells #[byteV x] 5)).setCells g l.length [byteV x] = (w.alloc (.cells #[byteV x] 5)).setCell ⟨g, l.length, none⟩ (byteV x) := rfl
        rw [hset] at hr
        obtain ⟨u, hu⟩ := Option.isSome_iff_exists.1 (k1 l.length (by omega))
        refine ⟨_, _, hr, .inr ⟨g, cap, by rw [List.length_append]; rfl, hb, by simpa using hg', by rw [List.length_append]; exact hroom, hc, fun j hj => ?_, fun j hj => ?_, fun j y hy => ?_⟩, hbW.setCell hb _⟩
        · by_cases hjk : l.length = j
          · subst hjk; rw [World.cell?_setCell_same _ _ _ hu]; rfl
          · rw [World.cell?_setCell_other _ _ _ _ (by intro e; simp at e <;> exact hjk e)]; exact k1 j hj
        · have := k2 j hj
          simpa [go_sem] using this
        · by_cases hjk : l.length = j
          · subst hjk
            rw [World.cell?_setCell_same _ _ _ hu]
            simp at hy
            rw [hy]
          · rw [World.cell?_setCell_other _ _ _ _ (by intro e; simp at e <;> exact hjk e)]
            have hj := (List.getElem?_eq_some_iff.1 hy).1
            rw [List.length_append] at hj
            simp at hj
            rw [List.getElem?_append_left (by omega)] at hy
            exact k3 j y hy
    · have hr := run_append_grow (P := Tryz.prog) (w.alloc (.cells #[byteV x] 5)) 144 144 5 i (.int .u8 0) ht hi hz ⟨g, 0, none⟩ l.length cap (l.map byteV) (by rw [hsize]; simp)
        (fun j u hu => by
          rw [add_plain', Nat.zero_add, World.cell?_alloc_lt _ _ _ hg]
          rw [List.getElem?_map] at hu
          cases hlj : l[j]? with
          | none => rw [hlj] at hu; cases hu
          | some y => rw [hlj] at hu; injection hu with hu; rw [← hu]; exact h3 j y hlj)
        ⟨w.heap.size, 0, none⟩ 1 1 [byteV x] (by rw [hsize]; rfl) hnews (by omega) (by omega) (growslice_fits (by omega) (by rw [hby]; omega))
      have hn := hnew (w.alloc (.cells #[byteV x] 5)) cap (by omega) (by simp) hbW
      exact ⟨_, _, hr, hn.1, hn.2⟩
end Go.Proofs.YtkhnialfkndiiaaGreat

set_option linter.unusedVariables false
set_option maxRecDepth 100000
namespace Go.Proofs.YtkhnialfkndiiaaGreat
open Go.RowKit Copyhold
attribute [local go_sem] piece
end Go.Proofs.YtkhnialfkndiiaaGreat

set_option linter.unusedVariables false
set_option linter.unusedSimpArgs false
set_option maxRecDepth 100000
namespace Go.Proofs.YtkhnialfkndiiaaGreat.dataSplit
open Go.RowKit Copyhold
end Go.Proofs.YtkhnialfkndiiaaGreat.dataSplit

set_option linter.unusedVariables false
set_option maxRecDepth 100000
namespace Go.Proofs.YtkhnialfkndiiaaGreat
open Go.RowKit Copyhold
attribute [local go_sem] piece
end Go.Proofs.YtkhnialfkndiiaaGreat

set_option linter.unusedVariables false
set_option maxRecDepth 100000
namespace Go.Proofs.YtkhnialfkndiiaaGreat
open Go.RowKit Copyhold
attribute [local go_sem] piece
end Go.Proofs.YtkhnialfkndiiaaGreat

set_option linter.unusedVariables false
set_option linter.unusedSimpArgs false
namespace Go.Proofs.YtkhnialfkndiiaaGreat
open Go Go.RowKit Copyhold
theorem dono {f : Fsy} {c : Cal} {e : Int} (h : (deedF f c).2.e = e) (he : ¬ e = 0) : doF f c = (f, errR e) := by
  have := do_no (f := f) (c := c) rfl (by rw [h]; exact he)
  rw [this, h]
theorem readD_no {s : Txt} {a b : Int} (h : ¬ (readD s a b).2 = 0) : (readD s a b).1 = [] := by
  unfold readD at h ⊢
  split
  · rename_i h1; rw [if_pos h1] at h; exact absurd rfl h
  · rfl
theorem read_no {f : Fsy} {c : Cal} {e : Int} (hk : c.kind = 3) (h : ofE f c.ino 1 = e) (he : ¬ e = 0) : doF f c = (f, errR e) := dono (by rw [deed_3 hk]; unfold readO; rw [h, if_neg he]; rfl) he
theorem read_yes {f : Fsy} {c : Cal} (hk : c.kind = 3) (h : ofE f c.ino 1 = 0) : doF f c = (f, ⟨(readD (findN f c.ino).text c.at_ c.many).2, 0, 0, 0, (readD (findN f c.ino).text c.at_ c.many).1, []⟩) := by
  have hd : deedF f c = (f, ⟨(readD (findN f c.ino).text c.at_ c.many).2, 0, 0, 0, (readD (findN f c.ino).text c.at_ c.many).1, []⟩) := by rw [deed_3 hk]; unfold readO; rw [if_pos h]
  by_cases he : (readD (findN f c.ino).text c.at_ c.many).2 = 0
  · exact do_yes hd he
  · rw [do_no hd he, readD_no he]; rfl
theorem write_no {f : Fsy} {c : Cal} {e : Int} (hk : c.kind = 4) (h : ofE f c.ino 1 = e) (he : ¬ e = 0) : doF f c = (f, errR e) := dono (by rw [deed_4 hk]; unfold writeO; rw [h, if_neg he]; rfl) he
theorem write_yes {f : Fsy} {c : Cal} (hk : c.kind = 4) (h : ofE f c.ino 1 = 0) : deedF f c = (putF f (withT (findN f c.ino) (writeD (findN f c.ino).text c.at_ c.text).1), ⟨(writeD (findN f c.ino).text c.at_ c.text).2, (c.text.length : Int), 0, 0, [], []⟩) := by rw [deed_4 hk]; unfold writeO; rw [if_pos h]
theorem cut_no {f : Fsy} {c : Cal} {e : Int} (hk : c.kind = 5) (h : ofE f c.ino 1 = e) (he : ¬ e = 0) : doF f c = (f, errR e) := dono (by rw [deed_5 hk]; unfold cutO; rw [h, if_neg he]; rfl) he
theorem cut_yes {f : Fsy} {c : Cal} (hk : c.kind = 5) (h : ofE f c.ino 1 = 0) : deedF f c = (putF f (withT (findN f c.ino) (cutD (findN f c.ino).text c.many).1), errR (cutD (findN f c.ino).text c.many).2) := by rw [deed_5 hk]; unfold cutO; rw [if_pos h]
theorem link_no {f : Fsy} {c : Cal} {e : Int} (hk : c.kind = 13) (h : ofE f c.ino 3 = e) (he : ¬ e = 0) : doF f c = (f, errR e) := dono (by rw [deed_13 hk]; exact h) he
theorem link_yes {f : Fsy} {c : Cal} (hk : c.kind = 13) (h : ofE f c.ino 3 = 0) : doF f c = (f, ⟨0, 0, 0, 0, (findN f c.ino).text, []⟩) := by
  have hd : deedF f c = (f, ⟨0, 0, 0, 0, (findN f c.ino).text, []⟩) := by
    rw [deed_13 hk]; unfold rlnkO; rw [h, of_yes h]
  exact do_yes hd rfl
theorem tk_1 {f : Fsy} {c : Cal} {dir : Bool} {odd : Int} (hd : deedF f c = takeO f c dir odd) (h : ¬ lookE f c.ino c.name = 0) : doF f c = (f, errR (lookE f c.ino c.name)) := dono (by rw [hd]; unfold takeO; rw [if_neg h]; rfl) h
theorem tk_2 {f : Fsy} {c : Cal} {dir : Bool} {odd : Int} (hd : deedF f c = takeO f c dir odd) (h : lookE f c.ino c.name = 0) (h2 : (((lookN f c.ino c.name).kind == 2) != dir) = true) (ho : ¬ odd = 0) : doF f c = (f, errR odd) := dono (by rw [hd]; unfold takeO; rw [if_pos h, if_pos h2]; rfl) ho
theorem tk_3 {f : Fsy} {c : Cal} {dir : Bool} {odd : Int} (hd : deedF f c = takeO f c dir odd) (h : lookE f c.ino c.name = 0) (h2 : (((lookN f c.ino c.name).kind == 2) != dir) = false) : doF f c = (takeF f c.ino c.name, errR (takeErr f c.ino c.name)) := by
  have hd2 : deedF f c = (takeF f c.ino c.name, errR (takeErr f c.ino c.name)) := by rw [hd]; unfold takeO; rw [if_pos h, if_neg (by rw [h2]; decide)]
  by_cases he : takeErr f c.ino c.name = 0
  · exact do_yes hd2 he
  · rw [do_no hd2 he, show takeF f c.ino c.name = f from if_neg he]; rfl
theorem look_do {f : Fsy} {c : Cal} (hk : c.kind = 1) : doF f c = (f, ⟨lookE f c.ino c.name, (lookN f c.ino c.name).ino, 0, 0, [], []⟩) := by
  have hd : deedF f c = (f, ⟨lookE f c.ino c.name, (lookN f c.ino c.name).ino, 0, 0, [], []⟩) := by rw [deed_1 hk]; rfl
  by_cases he : lookE f c.ino c.name = 0
  · exact do_yes hd he
  · rw [do_no hd he, look_no he]; rfl
theorem stat_no {f : Fsy} {c : Cal} (hk : c.kind = 2) (h : findB f c.ino = false) : doF f c = (f, errR 6) := dono (by rw [deed_2 hk]; unfold statD; rw [h]; rfl) (by decide)
theorem stat_yes {f : Fsy} {c : Cal} (hk : c.kind = 2) (h : findB f c.ino = true) : doF f c = (f, ⟨0, (findN f c.ino).kind, (findN f c.ino).links, sizeN (findN f c.ino), [], []⟩) := by
  have hd : deedF f c = (f, ⟨0, (findN f c.ino).kind, (findN f c.ino).links, sizeN (findN f c.ino), [], []⟩) := by rw [deed_2 hk]; unfold statD; rw [if_pos h]
  exact do_yes hd rfl
theorem lk_do {f : Fsy} {c : Cal} (hk : c.kind = 11) : doF f c = (giveF f c.ino c.name c.to, errR (giveErr f c.ino c.name c.to)) := by
  have hd : deedF f c = (giveF f c.ino c.name c.to, errR (giveErr f c.ino c.name c.to)) := by rw [deed_11 hk]; rfl
  by_cases he : giveErr f c.ino c.name c.to = 0
  · exact do_yes hd he
  · rw [do_no hd he, show giveF f c.ino c.name c.to = f from if_neg he]; rfl
theorem rdir_do {f : Fsy} {c : Cal} (hk : c.kind = 14) : doF f c = (f, ⟨dirE f c.ino, 0, 0, 0, [], (dirN f c.ino).l.map Ent.name⟩) := by
  have hd : deedF f c = (f, ⟨dirE f c.ino, 0, 0, 0, [], (dirN f c.ino).l.map Ent.name⟩) := by rw [deed_14 hk]; rfl
  by_cases he : dirE f c.ino = 0
  · exact do_yes hd he
  · rw [do_no hd he, show dirN f c.ino = nod0 from if_neg he]; rfl
theorem none_do {f : Fsy} {c : Cal} (hk : c.kind < 1 ∨ c.kind > 15) : doF f c = (f, errR 1) := dono (by rw [deed_no hk]; rfl) (by decide)
structure OkC0 (c : Cal) : Prop where
  kind : I64 c.kind
  ino : I64 c.ino
  to : I64 c.to
  at_ : I64 c.at_
  many : I64 c.many
  name : c.name.length ≤ 140737488351232
  name2 : c.name2.length ≤ 140737488351232
  text : c.text.length ≤ 140737488351232
def txC (c : Cal) : Nat := c.name.length + c.name2.length + c.text.length
def smS (l : List Cal) (k : Nat) : Nat := l.length + ((l.take k).map txC).sum
def smallP (l : List Cal) : Prop := smS l l.length ≤ 2000 ∧ l.length ≤ 30
theorem sm_0 (l : List Cal) : smS l 0 = l.length := by unfold smS; simp
theorem sm_step {l : List Cal} {k : Nat} {x : Cal} (h : l[k]? = some x) : smS l (k + 1) = smS l k + txC x := by
  unfold smS
  rw [take_step h]
  simp
  omega
theorem sm_le (l : List Cal) (k : Nat) : smS l k ≤ smS l l.length := by
  unfold smS
  have := sum_take_le txC l k
  rw [List.take_length]
  omega
theorem small_ok {l : List Cal} (h : smallP l) {c : Cal} (hc : c ∈ l) (h0 : OkC0 c) : OkCal c := by
  have h1 := h.1
  have : txC c ≤ ((l.take l.length).map txC).sum := by rw [List.take_length]; exact sum_pos hc
  unfold smS at h1
  have e : txC c = c.name.length + c.name2.length + c.text.length := rfl
  exact ⟨h0.kind, h0.ino, h0.to, h0.at_, h0.many, by omega, by omega, by omega⟩
theorem small_spec (l : List Cal) (hl : l.length ≤ 8796093022207) (ok : ∀ c ∈ l, OkC0 c) : FSpec Tryz.prog 13 [.sl 8 false (l.map calA)] (aB (dP (smallP l))) := by
  exact spec_vc (F := Tryz.f13) 400 (
 .r 1 <| .r 2 <| .val 6 (show (aI ((l.map calA).length : Int) : AV) = aI (l.length : Int) from by rw [List.length_map]) <| .r 1 <| .r 1 <| let L1 : Lp (Nat) := ⟨fun a1 => ⟨[(0, .sl 8 false (l.map calA)), (4, aI (a1 : Int)), (3, aI (smS l a1 : Int))], []⟩, fun a1 => l.length - a1, fun a1 => a1 ≤ l.length ∧ smS l a1 ≤ 500000000000000⟩
 .loop L1 0 (show 0 ≤ l.length ∧ smS l 0 ≤ 500000000000000 from (by rw [sm_0]; omega)) ⟨[(0, .sl 8 false (l.map calA)), (4, aI 0), (3, aI (l.length : Int))], []⟩ ⟨Sub.refl _, Sub.of_eq (congrArg aI (by first | omega | rfl)), Sub.of_eq (congrArg aI (by rw [sm_0])), trivial⟩ trivial fun a1 ha1 =>
 (fun (k : Nat) (hH1 : k ≤ l.length ∧ smS l k ≤ 500000000000000) => .r 3 <| .val 9 (show (aI ((l.map calA).length : Int) : AV) = aI (l.length : Int) from by rw [List.length_map]) <| .r 2 <| .br 11 (decide ((k : Int) < (l.length : Int))) (fun q1 => have p1 := decT q1; .r 3 <| .br 14 (decide ((smS l k : Int) ≤ 2000)) (fun q2 => have p2 := decT q2; .ord [0, 1, 2, 3, 4, 5, 6, 7, 8, 9, 10, 11, 12, 13, 14, 15, 16, 17, 18, 19, 20, 21, 22] <| .r 3 <| .idxM l calA k (m := (k : Int)) rfl (by omega) fun x1 hx1 =>
 have okx1 := ok x1 (List.mem_of_getElem? hx1); have b1x1 := okx1.name; have b2x1 := okx1.name2; have b3x1 := okx1.text; .run 6 [rng .i64 ((smS l k : Int) + ((x1.name).length : Int))] ⟨rng64 (by omega) (by omega), trivial⟩ <|
 .idx k (m := (k : Int)) (xs := l.map calA) (e := calA x1) rfl (map_some hx1) <|
 .run 6 [rng .i64 (((smS l k : Int) + ((x1.name).length : Int)) + ((x1.name2).length : Int))] ⟨rng64 (by omega) (by omega), trivial⟩ <|
 .idx k (m := (k : Int)) (xs := l.map calA) (e := calA x1) rfl (map_some hx1) <|
 .run 5 [rng .i64 ((((smS l k : Int) + ((x1.name).length : Int)) + ((x1.name2).length : Int)) + ((x1.text).length : Int))] ⟨rng64 (by omega) (by omega), trivial⟩ <|
 .run 3 [rng .i64 ((k : Int) + 1)] ⟨rng64 (by omega) (by omega), trivial⟩ <|
 .back L1 k (k + 1) (show (k + 1) ≤ l.length ∧ smS l (k + 1) ≤ 500000000000000 from (by refine ⟨by omega, ?_⟩; rw [sm_step hx1]; unfold txC; omega)) (show l.length - (k + 1) < l.length - k from (by omega)) ⟨[(0, .sl 8 false (l.map calA)), (4, aI ((k : Int) + 1)), (3, aI ((((smS l k : Int) + ((x1.name).length : Int)) + ((x1.name2).length : Int)) + ((x1.text).length : Int)))], []⟩ ⟨Sub.refl _, Sub.of_eq (congrArg aI (by first | omega | rfl)), Sub.of_eq (congrArg aI (by rw [sm_step hx1]; unfold txC; omega)), trivial⟩ trivial)
 <| fun q2 => have p2 := decF q2; .r 3 <| .is 41 q2 <| .r 5 <| .fin (x := aB false) (r := aB (dP (smallP l))) [] trivial (by
    have hm := sm_le l k
    by_cases hk : k = l.length
    · rw [← hk] at hm
      refine sE ?_
      unfold smallP
      rw [← hk]
      simp
      omega
    · refine sE ?_
      unfold smallP
      simp
      omega))
 <| fun q1 => have p1 := decF q1; .r 3 <| .r 3 <| .br 41 (decide ((smS l k : Int) ≤ 2000)) (fun q3 => have p3 := decT q3; .r 2 <| .val 43 (show (aI ((l.map calA).length : Int) : AV) = aI (l.length : Int) from by rw [List.length_map]) <| .r 3 <| .fin (x := aB (decide ((l.length : Int) ≤ 30))) (r := aB (dP (smallP l))) [] trivial (by
    have hm := sm_le l k
    by_cases hk : k = l.length
    · rw [← hk] at hm
      refine sE ?_
      unfold smallP
      rw [← hk]
      simp
      omega
    · refine sE ?_
      unfold smallP
      simp
      omega))
 <| fun q3 => have p3 := decF q3; .r 5 <| .fin (x := aB false) (r := aB (dP (smallP l))) [] trivial (by
    have hm := sm_le l k
    by_cases hk : k = l.length
    · rw [← hk] at hm
      refine sE ?_
      unfold smallP
      rw [← hk]
      simp
      omega
    · refine sE ?_
      unfold smallP
      simp
      omega)) a1 ha1) Tryz.func13 rfl (by kernel_rfl) (by kernel_rfl)
structure KeptN (f g : Fsy) (k : Nat) : Prop where
  ok : OkF g
  tree : TreeP g
  next : f.next ≤ g.next ∧ g.next ≤ f.next + k
  few : wF g ≤ wF f + 2 * k
theorem do_names {f : Fsy} {c : Cal} (hp : rowsP f) : (doF f c).2.names.length ≤ 256 := by
  have key : (deedF f c).2.names.length ≤ 256 := by
    rcases (show c.kind = 1 ∨ c.kind = 2 ∨ c.kind = 3 ∨ c.kind = 4 ∨ c.kind = 5 ∨ c.kind = 6 ∨ c.kind = 7 ∨ c.kind = 8 ∨ c.kind = 9 ∨ c.kind = 10 ∨ c.kind = 11 ∨ c.kind = 12 ∨ c.kind = 13 ∨ c.kind = 14 ∨ c.kind = 15 ∨ (c.kind < 1 ∨ c.kind > 15) from by omega) with h | h | h | h | h | h | h | h | h | h | h | h | h | h | h | h
    · rw [deed_1 h]
      exact Nat.zero_le _
    · rw [deed_2 h]
      unfold statD; split <;> exact Nat.zero_le _
    · rw [deed_3 h]
      unfold readO; split <;> exact Nat.zero_le _
    · rw [deed_4 h]
      unfold writeO; split <;> exact Nat.zero_le _
    · rw [deed_5 h]
      unfold cutO; split <;> exact Nat.zero_le _
    · rw [deed_6 h]
      exact Nat.zero_le _
    · rw [deed_7 h]
      exact Nat.zero_le _
    · rw [deed_8 h]
      unfold symO; split <;> exact Nat.zero_le _
    · rw [deed_9 h]
      unfold takeO; split
      · split <;> exact Nat.zero_le _
      · exact Nat.zero_le _
    · rw [deed_10 h]
      unfold takeO; split
      · split <;> exact Nat.zero_le _
      · exact Nat.zero_le _
    · rw [deed_11 h]
      exact Nat.zero_le _
    · rw [deed_12 h]
      exact Nat.zero_le _
    · rw [deed_13 h]
      exact Nat.zero_le _
    · rw [deed_14 h]
      show ((dirN f c.ino).l.map Ent.name).length ≤ 256
      rw [List.length_map]
      exact (dir_srt hp c.ino).2
    · rw [deed_15 h]
      exact Nat.zero_le _
    · rw [deed_no h]; exact Nat.zero_le _
  unfold doF
  split
  · exact key
  · exact Nat.zero_le _
theorem rep_eq {x y : Rep} (h1 : x.e = y.e) (h2 : x.a = y.a) (h3 : x.b = y.b) (h4 : x.n = y.n) (h5 : x.text = y.text) (h6 : x.names = y.names) : x = y := by cases x; cases y; simp_all
theorem ints_spec (a b : List Int) (h1 : a.length ≤ 1000000) (h2 : b.length ≤ 1000000) : FSpec Tryz.prog 18 [.sl 1 false (a.map intA), .sl 1 false (b.map intA)] (aB (dP (a = b))) := by
  exact spec_vc (F := Tryz.f18) 400 (
 .r 1 <| .r 2 <| .val 7 (show (aI ((a.map intA).length : Int) : AV) = aI (a.length : Int) from by rw [List.length_map]) <| .r 2 <| .val 9 (show (aI ((b.map intA).length : Int) : AV) = aI (b.length : Int) from by rw [List.length_map]) <| .r 1 <| .br 10 ((a.length : Int) != (b.length : Int)) (fun q1 => have p1 := bneT q1; .r 1 <| .fin (x := aB false) (r := aB (dP (a = b))) [] trivial (by exact sF (fun h => by have := congrArg List.length h; omega)))
 <| fun q1 => have p1 := bneF q1; .r 1 <| let L1 : Lp (Nat) := ⟨fun a1 => ⟨[(0, .sl 1 false (a.map intA)), (1, .sl 1 false (b.map intA)), (5, aI (a1 : Int))], []⟩, fun a1 => a.length - a1, fun a1 => a1 ≤ a.length ∧ a.take a1 = b.take a1⟩
 .loop L1 0 (show 0 ≤ a.length ∧ a.take 0 = b.take 0 from ⟨Nat.zero_le _, rfl⟩) ⟨[(0, .sl 1 false (a.map intA)), (1, .sl 1 false (b.map intA)), (5, aI 0)], []⟩ ⟨Sub.refl _, Sub.refl _, Sub.of_eq (congrArg aI (by first | omega | rfl)), trivial⟩ trivial fun a1 ha1 =>
 (fun (k : Nat) (hH1 : k ≤ a.length ∧ a.take k = b.take k) => .r 3 <| .val 13 (show (aI ((a.map intA).length : Int) : AV) = aI (a.length : Int) from by rw [List.length_map]) <| .r 1 <| .br 14 (decide ((k : Int) < (a.length : Int))) (fun q2 => have p2 := decT q2; .ord [0, 1, 2, 3, 4, 5, 6, 7, 8] <| .r 2 <| .idxM a intA k (m := (k : Int)) rfl (by omega) fun x1 hx1 =>
 .r 3 <| .idxM b intA k (m := (k : Int)) rfl (by omega) fun x2 hx2 =>
 .r 2 <| .br 25 (x1 != x2) (fun q3 => have p3 := bneT q3; .r 1 <| .fin (x := aB false) (r := aB (dP (a = b))) [] trivial (by
    refine sF (fun h => ?_)
    rw [h, hx2] at hx1
    obtain rfl := Option.some.inj hx1
    simp_all [dP_true, dP_false]))
 <| fun q3 => have p3 := bneF q3; .run 3 [rng .i64 ((k : Int) + 1)] ⟨rng64 (by omega) (by omega), trivial⟩ <|
 .back L1 k (k + 1) (show (k + 1) ≤ a.length ∧ a.take (k + 1) = b.take (k + 1) from ⟨by omega, by rw [take_step hx1, take_step hx2, hH1.2]; first | (congr 2; done) | (congr 2; exact (by simp_all))⟩) (show a.length - (k + 1) < a.length - k from (by omega)) ⟨[(0, .sl 1 false (a.map intA)), (1, .sl 1 false (b.map intA)), (5, aI ((k : Int) + 1))], []⟩ ⟨Sub.refl _, Sub.refl _, Sub.of_eq (congrArg aI (by first | omega | rfl)), trivial⟩ trivial)
 <| fun q2 => have p2 := decF q2; .r 1 <| .fin (x := aB true) (r := aB (dP (a = b))) [] trivial (by
    refine sT ?_
    have h := hH1.2
    rw [take_all (by omega), take_all (by omega)] at h
    exact h)) a1 ha1) Tryz.func18 rfl (by kernel_rfl) (by kernel_rfl)
end Go.Proofs.YtkhnialfkndiiaaGreat
