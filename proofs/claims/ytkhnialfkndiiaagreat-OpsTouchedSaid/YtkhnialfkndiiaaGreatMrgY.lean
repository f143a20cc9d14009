/- What a call makes of a right file system. ref06.Enter, Leave, Names over data. ref10.entered, left, less over data. ref10.Add, Give, Take over data. ref10.Take over data. ref08.Names over data, under a wider bound. ref08.Under: over data. ref08.Right: over data. A tree is right. ref08.Below, ref10.Move over data. Bytes that a call owns, whatever stands behind their end: made of a text, grown by one, stored into. Over this program's tables of bytes alone. copyholdref09.Read: it answers as the document says; old memory is as it was. Texts written over, byte by byte (as in DataSplit; without the law). No conditions beyond each law's own. copyholdref09.Cut, copyholdref09.Write: they answer as the document says; old memory is as it was. copyholdref09.Write: it answers as the document says; old memory is as it was. ref09.Read, Write, Cut; ref07.Size over data. ref11.refused, texts, made, taken over data. ref11.made, taken over data. ref11.Do over data. ref11.Small over data. Rules for a certificate's open nodes: 'make(S, n)': a row of one's own of n noughts. Over any program. Some calls, one behind the other. ref01.Strings, ref11.Same, All over data. ops.Same, ref11.Ints over data. ref11.With over data. ref11.named, Looks over data. A row of one's own said otherwise; sorting by insertion: the mathematics. -/
import Derived.Test.YtkhnialfkndiiaaGreatMrgW
import Derived.Test.YtkhnialfkndiiaaGreatOpsD11
import Derived.Test.YtkhnialfkndiiaaGreatMrgU
import Derived.Test.YtkhnialfkndiiaaGreatMrgO
import Derived.Test.YtkhnialfkndiiaaGreatMrgT
import Derived.Test.YtkhnialfkndiiaaGreatMrgX
import Derived.Test.YtkhnialfkndiiaaGreatMrgA
import Derived.ArgAppend
import Derived.Test.YtkhnialfkndiiaaGreatMrgI
set_option linter.unusedVariables false
set_option linter.unusedSimpArgs false
namespace Go.Proofs.YtkhnialfkndiiaaGreat
open Go Go.RowKit Copyhold
theorem of_at {f : Fsy} {i k : Int} (h : ofE f i k = 0) : atF f i = some (findN f i) ∧ (findN f i).kind = k := by
  unfold ofE at h
  split at h
  · rename_i hb
    split at h
    · rename_i hk; exact ⟨at_some hb, hk⟩
    · cases h
  · cases h
theorem kept_text {f : Fsy} {i : Int} {t : Txt} (okf : OkF f) (T : TreeP f) (h : ofE f i 1 = 0) (ht : t.length ≤ 4096) : Kept f (putF f (withT (findN f i) t)) := by
  obtain ⟨hn, hk⟩ := of_at h
  obtain ⟨n1, n2, n3⟩ := rows_at T.rows hn
  have okn := okf.2.2 _ (at_mem hn)
  exact kept_put okf T hn n3 rfl rfl rfl ⟨n1.1, n1.2.1, n1.2.2.1, .inr ⟨.inl hk, ht, (show (findN f i).l = [] from file_none n1 (by rw [hk]; decide))⟩⟩ ⟨okn.1, okn.2.1, okn.2.2.1, by show t.length ≤ _; omega, okn.2.2.2.2⟩
theorem kept_addO {f : Fsy} {c : Cal} {n : Nod} (okf : OkF f) (okc : OkCal c) (T : TreeP f) (hx : f.next < 4611686018427387904) (okn : OkN n) : Kept f (addO f c n).1 := by
  unfold addO
  show Kept f (if addErr f c.ino c.name n = 0 then _ else f)
  split
  · rename_i h; exact kept_add okf T okn okc.name hx h
  · exact Kept.self okf T
theorem kept_deed {f : Fsy} {c : Cal} (okf : OkF f) (okc : OkCal c) (T : TreeP f) (hx : f.next < 4611686018427387904) (he : (deedF f c).2.e = 0) : Kept f (deedF f c).1 := by
  have S := Kept.self okf T
  rcases (show c.kind = 1 ∨ c.kind = 2 ∨ c.kind = 3 ∨ c.kind = 4 ∨ c.kind = 5 ∨ c.kind = 6 ∨ c.kind = 7 ∨ c.kind = 8 ∨ c.kind = 9 ∨ c.kind = 10 ∨ c.kind = 11 ∨ c.kind = 12 ∨ c.kind = 13 ∨ c.kind = 14 ∨ c.kind = 15 ∨ (c.kind < 1 ∨ c.kind > 15) from by omega) with h | h | h | h | h | h | h | h | h | h | h | h | h | h | h | h
  · rw [deed_1 h] at he ⊢
    exact S
  · rw [deed_2 h] at he ⊢
    unfold statD; split <;> exact S
  · rw [deed_3 h] at he ⊢
    unfold readO; split <;> exact S
  · rw [deed_4 h] at he ⊢
    unfold writeO at he ⊢
    split
    · rename_i hof
      rw [if_pos hof] at he
      refine kept_text okf T hof ?_
      have he2 : (writeD (findN f c.ino).text c.at_ c.text).2 = 0 := he
      unfold writeD at he2 ⊢
      split
      · rename_i hw
        have hz := refusedD_zero hw
        have htl := txt_len T.rows c.ino
        show (if c.text = [] then (findN f c.ino).text else putD (findN f c.ino).text c.at_.toNat c.text).length ≤ 4096
        split
        · exact htl
        · rw [putD_length]; omega
      · exact txt_len T.rows c.ino
    · exact S
  · rw [deed_5 h] at he ⊢
    unfold cutO
    split
    · rename_i hof
      refine kept_text okf T hof ?_
      unfold cutD
      split
      · rename_i hw
        have hz := refusedD_zero hw
        show (fillD (findN f c.ino).text c.many.toNat).length ≤ 4096
        rw [fillD_length]; omega
      · exact txt_len T.rows c.ino
    · exact S
  · rw [deed_6 h] at he ⊢
    exact kept_addO okf okc T hx kfile_ok
  · rw [deed_7 h] at he ⊢
    exact kept_addO okf okc T hx kdir_ok
  · rw [deed_8 h] at he ⊢
    unfold symO
    split
    · exact S
    · exact kept_addO okf okc T hx (klink_ok okc.text)
  · rw [deed_9 h] at he ⊢
    unfold takeO at he ⊢
    split
    · rename_i h0
      split
      · exact S
      · rename_i h1
        rw [if_pos h0, if_neg h1] at he
        exact kept_take okf T he
    · exact S
  · rw [deed_10 h] at he ⊢
    unfold takeO at he ⊢
    split
    · rename_i h0
      split
      · exact S
      · rename_i h1
        rw [if_pos h0, if_neg h1] at he
        exact kept_take okf T he
    · exact S
  · rw [deed_11 h] at he ⊢
    unfold linkO at he ⊢
    exact kept_give okf T okc.name he
  · rw [deed_12 h] at he ⊢
    unfold renO at he ⊢
    exact kept_mov okf T okc.name2 he
  · rw [deed_13 h] at he ⊢
    exact S
  · rw [deed_14 h] at he ⊢
    exact S
  · rw [deed_15 h] at he ⊢
    exact S
  · rw [deed_no h]; exact S
theorem kept_do {f : Fsy} {c : Cal} (okf : OkF f) (okc : OkCal c) (T : TreeP f) (hx : f.next < 4611686018427387904) : Kept f (doF f c).1 := by
  unfold doF
  split
  · rename_i h; exact kept_deed okf okc T hx h
  · exact Kept.self okf T
end Go.Proofs.YtkhnialfkndiiaaGreat

set_option linter.unusedVariables false
set_option linter.unusedSimpArgs false
namespace Go.Proofs.YtkhnialfkndiiaaGreat
open Go Go.RowKit Copyhold
open Copyhold.Name (Srt insE delE getE isAt)
end Go.Proofs.YtkhnialfkndiiaaGreat

set_option linter.unusedVariables false
set_option linter.unusedSimpArgs false
namespace Go.Proofs.YtkhnialfkndiiaaGreat
open Go Go.RowKit Copyhold
open Copyhold.Name (Srt insE delE getE isAt)
end Go.Proofs.YtkhnialfkndiiaaGreat

set_option linter.unusedVariables false
set_option linter.unusedSimpArgs false
namespace Go.Proofs.YtkhnialfkndiiaaGreat
open Go Go.RowKit Copyhold
open Copyhold.Name (Srt insE delE getE isAt)
end Go.Proofs.YtkhnialfkndiiaaGreat

set_option linter.unusedVariables false
set_option linter.unusedSimpArgs false
namespace Go.Proofs.YtkhnialfkndiiaaGreat
open Go Go.RowKit Copyhold
open Copyhold.Name (Srt insE delE getE isAt)
end Go.Proofs.YtkhnialfkndiiaaGreat

set_option linter.unusedVariables false
set_option linter.unusedSimpArgs false
namespace Go.Proofs.YtkhnialfkndiiaaGreat
open Go Go.RowKit Copyhold
def midF (f : Fsy) : Prop := f.l.length + (f.l.map wN).sum ≤ 260
end Go.Proofs.YtkhnialfkndiiaaGreat

set_option linter.unusedVariables false
set_option linter.unusedSimpArgs false
namespace Go.Proofs.YtkhnialfkndiiaaGreat
open Go Go.RowKit Copyhold
end Go.Proofs.YtkhnialfkndiiaaGreat

set_option linter.unusedVariables false
set_option linter.unusedSimpArgs false
namespace Go.Proofs.YtkhnialfkndiiaaGreat
open Go Go.RowKit Copyhold
end Go.Proofs.YtkhnialfkndiiaaGreat

set_option linter.unusedVariables false
set_option linter.unusedSimpArgs false
namespace Go.Proofs.YtkhnialfkndiiaaGreat
open Go Go.RowKit Copyhold
theorem midF_of {f g : Fsy} (hf : fewF f) (K : Kept f g) : midF g := by
  have h := K.few
  rw [wF_eq, wF_eq] at h
  have := hf.1
  unfold midF
  omega
end Go.Proofs.YtkhnialfkndiiaaGreat

set_option linter.unusedVariables false
set_option linter.unusedSimpArgs false
namespace Go.Proofs.YtkhnialfkndiiaaGreat
open Go Go.RowKit Copyhold
open Copyhold.Name (Srt insE delE getE isAt)
end Go.Proofs.YtkhnialfkndiiaaGreat

set_option linter.unusedVariables false
set_option maxRecDepth 100000
namespace Go.Proofs.YtkhnialfkndiiaaGreat
open Go.RowKit Copyhold
theorem byteElem : Elem Tryz.prog 144 5 (.int .u8 0) 1 1 := ⟨by kernel_rfl, by kernel_rfl, rfl, by decide⟩
def byteV (b : UInt8) : Value := .int .u8 (b.toNat : Int)
def Brow (w : World) (base : Nat) (v : Value) (l : List UInt8) : Prop :=
  (v = .slice none 0 0 ∧ l = []) ∨ ∃ g cap, v = .slice (some ⟨g, 0, none⟩) l.length cap ∧ base ≤ g ∧ g < w.heap.size ∧ l.length ≤ cap ∧ cap ≤ maxLen ∧
    (∀ j, j < cap → (w.cell? ⟨g, j, none⟩).isSome = true) ∧ (∀ j, j < cap → w.frozen? ⟨g, j, none⟩ = false) ∧ ∀ j x, l[j]? = some x → w.cell? ⟨g, j, none⟩ = some (byteV x)
theorem Brow.shape {w : World} {base : Nat} {v : Value} {l : List UInt8} (h : Brow w base v l) : ∃ A c, v = .slice A l.length c := by
  rcases h with ⟨rfl, rfl⟩ | ⟨g, cap, rfl, _⟩
  · exact ⟨none, 0, rfl⟩
  · exact ⟨_, cap, rfl⟩
theorem Brow.alloc {w : World} {base : Nat} {v : Value} {l : List UInt8} (h : Brow w base v l) (o : Obj) : Brow (w.alloc o) base v l := by
  rcases h with h | ⟨g, cap, rfl, hb, hg, hl, hc, h1, h2, h3⟩
  · exact .inl h
  · refine .inr ⟨g, cap, rfl, hb, by simp; omega, hl, hc, fun j hj => ?_, fun j hj => ?_, fun j x hx => ?_⟩
    · rw [World.cell?_alloc_lt _ _ _ hg]; exact h1 j hj
    · rw [World.frozen?_of_block (Below.heap_alloc w o g hg)]; exact h2 j hj
    · rw [World.cell?_alloc_lt _ _ _ hg]; exact h3 j x hx
theorem Brow.back {w : World} {base : Nat} {v : Value} {l : List UInt8} (h : Brow w base v l) : (convert 144 9 v).run Tryz.prog w = .ok (.string ⟨l.toArray⟩) w := by
  rcases h with ⟨rfl, rfl⟩ | ⟨g, cap, rfl, hb, hg, hl, hc, h1, h2, h3⟩
  · exact run_convert_bytes_nil w 144 5 rfl rfl 0 0 9 rfl
  · exact run_convert_bytes_back w _ _ 5 _ _ l rfl rfl rfl fun j hj => by
      rw [add_plain', Nat.zero_add]
      exact h3 j _ (List.getElem?_eq_getElem hj)
theorem Brow.store {w : World} {base g cap : Nat} {l : List UInt8} (h : Brow w base (.slice (some ⟨g, 0, none⟩) l.length cap) l) (k : Nat) (x : UInt8) (hk : k < l.length) :
    base ≤ g ∧ (∃ u, w.cell? ⟨g, k, none⟩ = some u) ∧ w.frozen? ⟨g, k, none⟩ = false ∧ Brow (w.setCell ⟨g, k, none⟩ (byteV x)) base (.slice (some ⟨g, 0, none⟩) l.length cap) (l.set k x) := by
  rcases h with ⟨h, rfl⟩ | ⟨g', cap', he, hb, hg, hl, hc, h1, h2, h3⟩
  · simp at hk
  · simp only [Value.slice.injEq, Option.some.injEq, Addr.mk.injEq, and_true, true_and] at he
    obtain ⟨rfl, rfl⟩ := he
    have hc0 := h3 k l[k] (List.getElem?_eq_getElem hk)
    refine ⟨hb, ⟨_, hc0⟩, h2 k (by omega), .inr ⟨g, cap, by rw [List.length_set], hb, by simpa using hg, by rw [List.length_set]; exact hl, hc, fun j hj => ?_, fun j hj => ?_, fun j y hy => ?_⟩⟩
    · by_cases hjk : k = j
      · subst hjk; rw [World.cell?_setCell_same _ _ _ hc0]; rfl
      · rw [World.cell?_setCell_other _ _ _ _ (by intro e; simp at e <;> exact hjk e)]; exact h1 j hj
    · have := h2 j hj
      simpa [go_sem] using this
    · by_cases hjk : k = j
      · subst hjk
        rw [World.cell?_setCell_same _ _ _ hc0]
        rw [List.getElem?_set_self hk] at hy
        injection hy with hy
        subst hy
        rfl
      · rw [World.cell?_setCell_other _ _ _ _ (by intro e; simp at e <;> exact hjk e)]
        rw [List.getElem?_set_ne hjk] at hy
        exact h3 j y hy
theorem Brow.append {w : World} {base : Nat} {v : Value} {l : List UInt8} (h : Brow w base v l) (x : UInt8) (hl : l.length ≤ 1048576) (hbase : base ≤ w.heap.size) :
    ∃ v' w', (Builtin.append_ #[144, 144] 144 #[v, .slice (some ⟨w.heap.size, 0, none⟩) 1 1]).run Tryz.prog (w.alloc (.cells #[byteV x] 5)) = .ok v' w' ∧ Brow w' base v' (l ++ [x]) ∧ Below base w w' := by
  obtain ⟨ht, hinf, hzs, hsz⟩ := byteElem
  obtain ⟨i, hi, hz, hsize, hby⟩ := info_of hinf
  have hnews := cell_one_new w (byteV x) 5
  have hbW : Below base w (w.alloc (.cells #[byteV x] 5)) := (Below.refl _ _).alloc hbase _
  have h1c : ∀ u ∈ [byteV x], u.oneCell' = true := fun u hu => by simp at hu; subst hu; rfl
  have hnew : ∀ (W : World) (old : Nat), old < l.length + 1 → W.heap.size = w.heap.size + 1 → Below base w W → Brow (W.drew.alloc (.cells ((l.map byteV).toArray ++ #[byteV x] ++ Builtin.zeroCells (Value.int .u8 0).cells (grownCap W (l.length + 1) old 5 - (l.length + 1))) 5)) base
      (.slice (some ⟨W.heap.size, 0, none⟩) (l.length + 1) (grownCap W (l.length + 1) old 5)) (l ++ [x]) ∧ Below base w (W.drew.alloc (.cells ((l.map byteV).toArray ++ #[byteV x] ++ Builtin.zeroCells (Value.int .u8 0).cells (grownCap W (l.length + 1) old 5 - (l.length + 1))) 5)) := by
    intro W old ho hs hB
    have hge := grownCap_ge W (l.length + 1) old 5
    have hcm := grownCap_le_maxLen W (l.length + 1) old 5 (by unfold maxLen; omega)
    have hcell := cell_new W.drew ((l.map byteV).toArray ++ #[byteV x] ++ Builtin.zeroCells (Value.int .u8 0).cells (grownCap W (l.length + 1) old 5 - (l.length + 1))) 5
    have hcsz : ((l.map byteV).toArray ++ #[byteV x] ++ Builtin.zeroCells (Value.int .u8 0).cells (grownCap W (l.length + 1) old 5 - (l.length + 1))).size = grownCap W (l.length + 1) old 5 := by
      simp [size_zeroCells]
      have : (Value.int .u8 0).cells.size = 1 := rfl
      rw [this]
      omega
    refine ⟨.inr ⟨W.heap.size, _, by rw [List.length_append]; rfl, by rw [hs]; omega, by simp, by rw [List.length_append]; simpa using hge, hcm, fun j hj => ?_, fun j hj => ?_, fun j y hy => ?_⟩, ?_⟩
    · have := hcell j
      rw [show W.drew.heap.size = W.heap.size from rfl] at this
      rw [this, Array.getElem?_eq_getElem (by rw [hcsz]; exact hj)]
      rfl
    · have : (W.drew.alloc (.cells ((l.map byteV).toArray ++ #[byteV x] ++ Builtin.zeroCells (Value.int .u8 0).cells (grownCap W (l.length + 1) old 5 - (l.length + 1))) 5)).heap[W.heap.size]? = _ := heap_alloc_new W.drew _
      simp only [World.frozen?, this]
      simp
    · have := hcell j
      rw [show W.drew.heap.size = W.heap.size from rfl] at this
      rw [this]
      have hj := (List.getElem?_eq_some_iff.1 hy).1
      rw [List.length_append] at hj
      simp at hj
      have e : ((l.map byteV).toArray ++ #[byteV x]) = ((l ++ [x]).map byteV).toArray := by simp
      rw [e, Array.getElem?_append_left (by simp; omega), List.getElem?_toArray, List.getElem?_map, hy]
      rfl
    · exact (hB.drew).alloc (by show base ≤ W.heap.size; omega) _
  rcases h with ⟨rfl, rfl⟩ | ⟨g, cap, rfl, hb, hg, hlc, hc, h1, h2, h3⟩
  · have hr := run_append_nil (P := Tryz.prog) (w.alloc (.cells #[byteV x] 5)) 144 144 5 i (.int .u8 0) ht hi hz ⟨w.heap.size, 0, none⟩ 1 1 [byteV x] (by rw [hsize]; rfl) hnews (by omega) (by omega) (by rw [hby]; omega)
    have hn := hnew (w.alloc (.cells #[byteV x] 5)) 0 (by omega) (by simp) hbW
    simp only [List.map_nil, List.length_nil, Nat.zero_add] at hn
    exact ⟨_, _, hr, by simpa using hn.1, by simpa using hn.2⟩
  · by_cases hroom : l.length + 1 ≤ cap
    · have hA := (show Brow w base (.slice (some ⟨g, 0, none⟩) l.length cap) l from .inr ⟨g, cap, rfl, hb, hg, hlc, hc, h1, h2, h3⟩).alloc (.cells #[byteV x] 5)
      rcases hA with ⟨he, _⟩ | ⟨g', cap', he, hb', hg', hlc', hc', k1, k2, k3⟩
      · simp at he
      · simp only [Value.slice.injEq, Option.some.injEq, Addr.mk.injEq, and_true, true_and] at he
        obtain ⟨rfl, rfl⟩ := he
        have hr := run_append_room_cells (P := Tryz.prog) (w.alloc (.cells #[byteV x] 5)) 144 144 5 i ht hi g 0 l.length cap ⟨w.heap.size, 0, none⟩ 1 1 [byteV x] (by rw [hsize]; rfl) hnews h1c hroom
          (fun j hj => by simp at hj; subst hj; rw [hsize]; simpa using k1 l.length (by omega)) (fun j hj => by simp at hj; subst hj; rw [hsize]; simpa using k2 l.length (by omega))
        rw [hsize, Nat.mul_one, Nat.zero_add] at hr
        have hset : (w.alloc (.cells #[byteV x] 5)).setCells g l.length [byteV x] = (w.alloc (.cells #[byteV x] 5)).setCell ⟨g, l.length, none⟩ (byteV x) := rfl
        rw [hset] at hr
        obtain ⟨u, hu⟩ := Option.isSome_iff_exists.1 (k1 l.length (by omega))
        refine ⟨_, _, hr, .inr ⟨g, cap, by rw [List.length_append]; rfl, hb, by simpa using hg', by rw [List.length_append]; exact hroom, hc, fun j hj => ?_, fun j hj => ?_, fun j y hy => ?_⟩, hbW.setCell hb _⟩
        · by_cases hjk : l.length = j
          · subst hjk; rw [World.cell?_setCell_same _ _ _ hu]; rfl
          · rw [World.cell?_setCell_other _ _ _ _ (by intro e; simp at e <;> exact hjk e)]; exact k1 j hj
        · have := k2 j hj
          simpa [go_sem] using this
        · by_cases hjk : l.length = j
          · subst hjk
            rw [World.cell?_setCell_same _ _ _ hu]
            simp at hy
            rw [hy]
          · rw [World.cell?_setCell_other _ _ _ _ (by intro e; simp at e <;> exact hjk e)]
            have hj := (List.getElem?_eq_some_iff.1 hy).1
            rw [List.length_append] at hj
            simp at hj
            rw [List.getElem?_append_left (by omega)] at hy
            exact k3 j y hy
    · have hr := run_append_grow (P := Tryz.prog) (w.alloc (.cells #[byteV x] 5)) 144 144 5 i (.int .u8 0) ht hi hz ⟨g, 0, none⟩ l.length cap (l.map byteV) (by rw [hsize]; simp)
        (fun j u hu => by
          rw [add_plain', Nat.zero_add, World.cell?_alloc_lt _ _ _ hg]
          rw [List.getElem?_map] at hu
          cases hlj : l[j]? with
          | none => rw [hlj] at hu; cases hu
          | some y => rw [hlj] at hu; injection hu with hu; rw [← hu]; exact h3 j y hlj)
        ⟨w.heap.size, 0, none⟩ 1 1 [byteV x] (by rw [hsize]; rfl) hnews (by omega) (by omega) (growslice_fits (by omega) (by rw [hby]; omega))
      have hn := hnew (w.alloc (.cells #[byteV x] 5)) cap (by omega) (by simp) hbW
      exact ⟨_, _, hr, hn.1, hn.2⟩
end Go.Proofs.YtkhnialfkndiiaaGreat

set_option linter.unusedVariables false
set_option maxRecDepth 100000
namespace Go.Proofs.YtkhnialfkndiiaaGreat
open Go.RowKit Copyhold
attribute [local go_sem] piece
end Go.Proofs.YtkhnialfkndiiaaGreat

set_option linter.unusedVariables false
set_option linter.unusedSimpArgs false
set_option maxRecDepth 100000
namespace Go.Proofs.YtkhnialfkndiiaaGreat.dataSplit
open Go.RowKit Copyhold
end Go.Proofs.YtkhnialfkndiiaaGreat.dataSplit

set_option linter.unusedVariables false
set_option maxRecDepth 100000
namespace Go.Proofs.YtkhnialfkndiiaaGreat
open Go.RowKit Copyhold
attribute [local go_sem] piece
end Go.Proofs.YtkhnialfkndiiaaGreat

set_option linter.unusedVariables false
set_option maxRecDepth 100000
namespace Go.Proofs.YtkhnialfkndiiaaGreat
open Go.RowKit Copyhold
attribute [local go_sem] piece
end Go.Proofs.YtkhnialfkndiiaaGreat

set_option linter.unusedVariables false
set_option linter.unusedSimpArgs false
namespace Go.Proofs.YtkhnialfkndiiaaGreat
open Go Go.RowKit Copyhold
end Go.Proofs.YtkhnialfkndiiaaGreat

set_option linter.unusedVariables false
set_option linter.unusedSimpArgs false
namespace Go.Proofs.YtkhnialfkndiiaaGreat
open Go Go.RowKit Copyhold
theorem dono {f : Fsy} {c : Cal} {e : Int} (h : (deedF f c).2.e = e) (he : ¬ e = 0) : doF f c = (f, errR e) := by
  have := do_no (f := f) (c := c) rfl (by rw [h]; exact he)
  rw [this, h]
theorem readD_no {s : Txt} {a b : Int} (h : ¬ (readD s a b).2 = 0) : (readD s a b).1 = [] := by
  unfold readD at h ⊢
  split
  · rename_i h1; rw [if_pos h1] at h; exact absurd rfl h
  · rfl
theorem read_no {f : Fsy} {c : Cal} {e : Int} (hk : c.kind = 3) (h : ofE f c.ino 1 = e) (he : ¬ e = 0) : doF f c = (f, errR e) := dono (by rw [deed_3 hk]; unfold readO; rw [h, if_neg he]; rfl) he
theorem read_yes {f : Fsy} {c : Cal} (hk : c.kind = 3) (h : ofE f c.ino 1 = 0) : doF f c = (f, ⟨(readD (findN f c.ino).text c.at_ c.many).2, 0, 0, 0, (readD (findN f c.ino).text c.at_ c.many).1, []⟩) := by
  have hd : deedF f c = (f, ⟨(readD (findN f c.ino).text c.at_ c.many).2, 0, 0, 0, (readD (findN f c.ino).text c.at_ c.many).1, []⟩) := by rw [deed_3 hk]; unfold readO; rw [if_pos h]
  by_cases he : (readD (findN f c.ino).text c.at_ c.many).2 = 0
  · exact do_yes hd he
  · rw [do_no hd he, readD_no he]; rfl
theorem write_no {f : Fsy} {c : Cal} {e : Int} (hk : c.kind = 4) (h : ofE f c.ino 1 = e) (he : ¬ e = 0) : doF f c = (f, errR e) := dono (by rw [deed_4 hk]; unfold writeO; rw [h, if_neg he]; rfl) he
theorem write_yes {f : Fsy} {c : Cal} (hk : c.kind = 4) (h : ofE f c.ino 1 = 0) : deedF f c = (putF f (withT (findN f c.ino) (writeD (findN f c.ino).text c.at_ c.text).1), ⟨(writeD (findN f c.ino).text c.at_ c.text).2, (c.text.length : Int), 0, 0, [], []⟩) := by rw [deed_4 hk]; unfold writeO; rw [if_pos h]
theorem cut_no {f : Fsy} {c : Cal} {e : Int} (hk : c.kind = 5) (h : ofE f c.ino 1 = e) (he : ¬ e = 0) : doF f c = (f, errR e) := dono (by rw [deed_5 hk]; unfold cutO; rw [h, if_neg he]; rfl) he
theorem cut_yes {f : Fsy} {c : Cal} (hk : c.kind = 5) (h : ofE f c.ino 1 = 0) : deedF f c = (putF f (withT (findN f c.ino) (cutD (findN f c.ino).text c.many).1), errR (cutD (findN f c.ino).text c.many).2) := by rw [deed_5 hk]; unfold cutO; rw [if_pos h]
theorem link_no {f : Fsy} {c : Cal} {e : Int} (hk : c.kind = 13) (h : ofE f c.ino 3 = e) (he : ¬ e = 0) : doF f c = (f, errR e) := dono (by rw [deed_13 hk]; exact h) he
theorem link_yes {f : Fsy} {c : Cal} (hk : c.kind = 13) (h : ofE f c.ino 3 = 0) : doF f c = (f, ⟨0, 0, 0, 0, (findN f c.ino).text, []⟩) := by
  have hd : deedF f c = (f, ⟨0, 0, 0, 0, (findN f c.ino).text, []⟩) := by
    rw [deed_13 hk]; unfold rlnkO; rw [h, of_yes h]
  exact do_yes hd rfl
theorem add_no {f : Fsy} {c : Cal} {n : Nod} (hd : deedF f c = addO f c n) {e : Int} (h : addErr f c.ino c.name n = e) (he : ¬ e = 0) : doF f c = (f, errR e) := dono (by rw [hd]; exact h) he
theorem add_yes {f : Fsy} {c : Cal} {n : Nod} (hd : deedF f c = addO f c n) (h : addErr f c.ino c.name n = 0) : doF f c = (addF f c.ino c.name (addN f n), ⟨0, f.next, 0, 0, [], []⟩) := by
  have h2 : addO f c n = (addF f c.ino c.name (addN f n), ⟨0, f.next, 0, 0, [], []⟩) := by unfold addO; rw [h]; rfl
  exact do_yes (hd.trans h2) rfl
theorem sym_big {f : Fsy} {c : Cal} (hk : c.kind = 8) (h : (c.text.length : Int) > 4096) : doF f c = (f, errR 5) := dono (by rw [deed_8 hk]; unfold symO; rw [if_pos h]; rfl) (by decide)
theorem sym_add {f : Fsy} {c : Cal} (hk : c.kind = 8) (h : ¬ (c.text.length : Int) > 4096) : deedF f c = addO f c ⟨0, 3, 0, c.text, []⟩ := by rw [deed_8 hk]; unfold symO; rw [if_neg h]
end Go.Proofs.YtkhnialfkndiiaaGreat

set_option linter.unusedVariables false
set_option linter.unusedSimpArgs false
namespace Go.Proofs.YtkhnialfkndiiaaGreat
open Go Go.RowKit Copyhold
theorem tk_1 {f : Fsy} {c : Cal} {dir : Bool} {odd : Int} (hd : deedF f c = takeO f c dir odd) (h : ¬ lookE f c.ino c.name = 0) : doF f c = (f, errR (lookE f c.ino c.name)) := dono (by rw [hd]; unfold takeO; rw [if_neg h]; rfl) h
theorem tk_2 {f : Fsy} {c : Cal} {dir : Bool} {odd : Int} (hd : deedF f c = takeO f c dir odd) (h : lookE f c.ino c.name = 0) (h2 : (((lookN f c.ino c.name).kind == 2) != dir) = true) (ho : ¬ odd = 0) : doF f c = (f, errR odd) := dono (by rw [hd]; unfold takeO; rw [if_pos h, if_pos h2]; rfl) ho
theorem tk_3 {f : Fsy} {c : Cal} {dir : Bool} {odd : Int} (hd : deedF f c = takeO f c dir odd) (h : lookE f c.ino c.name = 0) (h2 : (((lookN f c.ino c.name).kind == 2) != dir) = false) : doF f c = (takeF f c.ino c.name, errR (takeErr f c.ino c.name)) := by
  have hd2 : deedF f c = (takeF f c.ino c.name, errR (takeErr f c.ino c.name)) := by rw [hd]; unfold takeO; rw [if_pos h, if_neg (by rw [h2]; decide)]
  by_cases he : takeErr f c.ino c.name = 0
  · exact do_yes hd2 he
  · rw [do_no hd2 he, show takeF f c.ino c.name = f from if_neg he]; rfl
end Go.Proofs.YtkhnialfkndiiaaGreat

set_option linter.unusedVariables false
set_option linter.unusedSimpArgs false
namespace Go.Proofs.YtkhnialfkndiiaaGreat
open Go Go.RowKit Copyhold
theorem look_do {f : Fsy} {c : Cal} (hk : c.kind = 1) : doF f c = (f, ⟨lookE f c.ino c.name, (lookN f c.ino c.name).ino, 0, 0, [], []⟩) := by
  have hd : deedF f c = (f, ⟨lookE f c.ino c.name, (lookN f c.ino c.name).ino, 0, 0, [], []⟩) := by rw [deed_1 hk]; rfl
  by_cases he : lookE f c.ino c.name = 0
  · exact do_yes hd he
  · rw [do_no hd he, look_no he]; rfl
theorem stat_no {f : Fsy} {c : Cal} (hk : c.kind = 2) (h : findB f c.ino = false) : doF f c = (f, errR 6) := dono (by rw [deed_2 hk]; unfold statD; rw [h]; rfl) (by decide)
theorem stat_yes {f : Fsy} {c : Cal} (hk : c.kind = 2) (h : findB f c.ino = true) : doF f c = (f, ⟨0, (findN f c.ino).kind, (findN f c.ino).links, sizeN (findN f c.ino), [], []⟩) := by
  have hd : deedF f c = (f, ⟨0, (findN f c.ino).kind, (findN f c.ino).links, sizeN (findN f c.ino), [], []⟩) := by rw [deed_2 hk]; unfold statD; rw [if_pos h]
  exact do_yes hd rfl
theorem lk_do {f : Fsy} {c : Cal} (hk : c.kind = 11) : doF f c = (giveF f c.ino c.name c.to, errR (giveErr f c.ino c.name c.to)) := by
  have hd : deedF f c = (giveF f c.ino c.name c.to, errR (giveErr f c.ino c.name c.to)) := by rw [deed_11 hk]; rfl
  by_cases he : giveErr f c.ino c.name c.to = 0
  · exact do_yes hd he
  · rw [do_no hd he, show giveF f c.ino c.name c.to = f from if_neg he]; rfl
theorem movF_no {f : Fsy} {dir : Int} {s : Txt} {to : Int} {t : Txt} (h : ¬ movErr f dir s to t = 0) : movF f dir s to t = f := by
  unfold movErr at h
  unfold movF
  split
  · rename_i h1
    rw [if_pos h1] at h
    split
    · rfl
    · first | rfl | rw [if_neg h]
  · rfl
theorem mv_do {f : Fsy} {c : Cal} (hk : c.kind = 12) : doF f c = (movF f c.ino c.name c.to c.name2, errR (movErr f c.ino c.name c.to c.name2)) := by
  have hd : deedF f c = (movF f c.ino c.name c.to c.name2, errR (movErr f c.ino c.name c.to c.name2)) := by rw [deed_12 hk]; rfl
  by_cases he : movErr f c.ino c.name c.to c.name2 = 0
  · exact do_yes hd he
  · rw [do_no hd he, movF_no he]; rfl
theorem rdir_do {f : Fsy} {c : Cal} (hk : c.kind = 14) : doF f c = (f, ⟨dirE f c.ino, 0, 0, 0, [], (dirN f c.ino).l.map Ent.name⟩) := by
  have hd : deedF f c = (f, ⟨dirE f c.ino, 0, 0, 0, [], (dirN f c.ino).l.map Ent.name⟩) := by rw [deed_14 hk]; rfl
  by_cases he : dirE f c.ino = 0
  · exact do_yes hd he
  · rw [do_no hd he, show dirN f c.ino = nod0 from if_neg he]; rfl
theorem sfs_do {f : Fsy} {c : Cal} (hk : c.kind = 15) : doF f c = (f, ⟨0, (f.l.length : Int), (txtS f.l : Int), 0, [], []⟩) := by
  have hd : deedF f c = (f, ⟨0, (f.l.length : Int), (txtS f.l : Int), 0, [], []⟩) := by rw [deed_15 hk]; rfl
  exact do_yes hd rfl
theorem none_do {f : Fsy} {c : Cal} (hk : c.kind < 1 ∨ c.kind > 15) : doF f c = (f, errR 1) := dono (by rw [deed_no hk]; rfl) (by decide)
end Go.Proofs.YtkhnialfkndiiaaGreat

set_option linter.unusedVariables false
set_option linter.unusedSimpArgs false
namespace Go.Proofs.YtkhnialfkndiiaaGreat
open Go Go.RowKit Copyhold
structure OkC0 (c : Cal) : Prop where
  kind : I64 c.kind
  ino : I64 c.ino
  to : I64 c.to
  at_ : I64 c.at_
  many : I64 c.many
  name : c.name.length ≤ 140737488351232
  name2 : c.name2.length ≤ 140737488351232
  text : c.text.length ≤ 140737488351232
def txC (c : Cal) : Nat := c.name.length + c.name2.length + c.text.length
def smS (l : List Cal) (k : Nat) : Nat := l.length + ((l.take k).map txC).sum
def smallP (l : List Cal) : Prop := smS l l.length ≤ 2000 ∧ l.length ≤ 30
theorem sm_0 (l : List Cal) : smS l 0 = l.length := by unfold smS; simp
theorem sm_step {l : List Cal} {k : Nat} {x : Cal} (h : l[k]? = some x) : smS l (k + 1) = smS l k + txC x := by
  unfold smS
  rw [take_step h]
  simp
  omega
theorem sm_le (l : List Cal) (k : Nat) : smS l k ≤ smS l l.length := by
  unfold smS
  have := sum_take_le txC l k
  rw [List.take_length]
  omega
theorem small_ok {l : List Cal} (h : smallP l) {c : Cal} (hc : c ∈ l) (h0 : OkC0 c) : OkCal c := by
  have h1 := h.1
  have : txC c ≤ ((l.take l.length).map txC).sum := by rw [List.take_length]; exact sum_pos hc
  unfold smS at h1
  have e : txC c = c.name.length + c.name2.length + c.text.length := rfl
  exact ⟨h0.kind, h0.ino, h0.to, h0.at_, h0.many, by omega, by omega, by omega⟩
set_option maxRecDepth 100000 in
set_option maxHeartbeats 4000000 in
theorem small_spec (l : List Cal) (hl : l.length ≤ 8796093022207) (ok : ∀ c ∈ l, OkC0 c) : FSpec Tryz.prog 13 [.sl 8 false (l.map calA)] (aB (dP (smallP l))) := by
  exact spec_vc (F := Tryz.f13) 400 (
 .r 1 <| .r 2 <| .val 6 (show (aI ((l.map calA).length : Int) : AV) = aI (l.length : Int) from by rw [List.length_map]) <| .r 1 <| .r 1 <| let L1 : Lp (Nat) := ⟨fun a1 => ⟨[(0, .sl 8 false (l.map calA)), (4, aI (a1 : Int)), (3, aI (smS l a1 : Int))], []⟩, fun a1 => l.length - a1, fun a1 => a1 ≤ l.length ∧ smS l a1 ≤ 500000000000000⟩
 .loop L1 0 (show 0 ≤ l.length ∧ smS l 0 ≤ 500000000000000 from (by rw [sm_0]; omega)) ⟨[(0, .sl 8 false (l.map calA)), (4, aI 0), (3, aI (l.length : Int))], []⟩ ⟨Sub.refl _, Sub.of_eq (congrArg aI (by first | omega | rfl)), Sub.of_eq (congrArg aI (by rw [sm_0])), trivial⟩ trivial fun a1 ha1 =>
 (fun (k : Nat) (hH1 : k ≤ l.length ∧ smS l k ≤ 500000000000000) => .r 3 <| .val 9 (show (aI ((l.map calA).length : Int) : AV) = aI (l.length : Int) from by rw [List.length_map]) <| .r 2 <| .br 11 (decide ((k : Int) < (l.length : Int))) (fun q1 => have p1 := decT q1; .r 3 <| .br 14 (decide ((smS l k : Int) ≤ 2000)) (fun q2 => have p2 := decT q2; .ord [0, 1, 2, 3, 4, 5, 6, 7, 8, 9, 10, 11, 12, 13, 14, 15, 16, 17, 18, 19, 20, 21, 22] <| .r 3 <| .idxM l calA k (m := (k : Int)) rfl (by omega) fun x1 hx1 =>
 have okx1 := ok x1 (List.mem_of_getElem? hx1); have b1x1 := okx1.name; have b2x1 := okx1.name2; have b3x1 := okx1.text; .run 6 [rng .i64 ((smS l k : Int) + ((x1.name).length : Int))] ⟨rng64 (by omega) (by omega), trivial⟩ <|
 .idx k (m := (k : Int)) (xs := l.map calA) (e := calA x1) rfl (map_some hx1) <|
 .run 6 [rng .i64 (((smS l k : Int) + ((x1.name).length : Int)) + ((x1.name2).length : Int))] ⟨rng64 (by omega) (by omega), trivial⟩ <|
 .idx k (m := (k : Int)) (xs := l.map calA) (e := calA x1) rfl (map_some hx1) <|
 .run 5 [rng .i64 ((((smS l k : Int) + ((x1.name).length : Int)) + ((x1.name2).length : Int)) + ((x1.text).length : Int))] ⟨rng64 (by omega) (by omega), trivial⟩ <|
 .run 3 [rng .i64 ((k : Int) + 1)] ⟨rng64 (by omega) (by omega), trivial⟩ <|
 .back L1 k (k + 1) (show (k + 1) ≤ l.length ∧ smS l (k + 1) ≤ 500000000000000 from (by refine ⟨by omega, ?_⟩; rw [sm_step hx1]; unfold txC; omega)) (show l.length - (k + 1) < l.length - k from (by omega)) ⟨[(0, .sl 8 false (l.map calA)), (4, aI ((k : Int) + 1)), (3, aI ((((smS l k : Int) + ((x1.name).length : Int)) + ((x1.name2).length : Int)) + ((x1.text).length : Int)))], []⟩ ⟨Sub.refl _, Sub.of_eq (congrArg aI (by first | omega | rfl)), Sub.of_eq (congrArg aI (by rw [sm_step hx1]; unfold txC; omega)), trivial⟩ trivial)
 <| fun q2 => have p2 := decF q2; .r 3 <| .is 41 q2 <| .r 5 <| .fin (x := aB false) (r := aB (dP (smallP l))) [] trivial (by
    have hm := sm_le l k
    by_cases hk : k = l.length
    · rw [← hk] at hm
      refine sE ?_
      unfold smallP
      rw [← hk]
      simp
      omega
    · refine sE ?_
      unfold smallP
      simp
      omega))
 <| fun q1 => have p1 := decF q1; .r 3 <| .r 3 <| .br 41 (decide ((smS l k : Int) ≤ 2000)) (fun q3 => have p3 := decT q3; .r 2 <| .val 43 (show (aI ((l.map calA).length : Int) : AV) = aI (l.length : Int) from by rw [List.length_map]) <| .r 3 <| .fin (x := aB (decide ((l.length : Int) ≤ 30))) (r := aB (dP (smallP l))) [] trivial (by
    have hm := sm_le l k
    by_cases hk : k = l.length
    · rw [← hk] at hm
      refine sE ?_
      unfold smallP
      rw [← hk]
      simp
      omega
    · refine sE ?_
      unfold smallP
      simp
      omega))
 <| fun q3 => have p3 := decF q3; .r 5 <| .fin (x := aB false) (r := aB (dP (smallP l))) [] trivial (by
    have hm := sm_le l k
    by_cases hk : k = l.length
    · rw [← hk] at hm
      refine sE ?_
      unfold smallP
      rw [← hk]
      simp
      omega
    · refine sE ?_
      unfold smallP
      simp
      omega)) a1 ha1) Tryz.func13 rfl (by kernel_rfl) (by kernel_rfl)
end Go.Proofs.YtkhnialfkndiiaaGreat

set_option linter.unusedVariables false
set_option linter.unusedSimpArgs false
namespace Go.Proofs.YtkhnialfkndiiaaGreat
open Go Go.RowKit Copyhold
end Go.Proofs.YtkhnialfkndiiaaGreat

set_option linter.unusedVariables false
set_option linter.unusedSimpArgs false
namespace Go.Proofs.YtkhnialfkndiiaaGreat
open Go Go.RowKit Copyhold
structure KeptN (f g : Fsy) (k : Nat) : Prop where
  ok : OkF g
  tree : TreeP g
  next : f.next ≤ g.next ∧ g.next ≤ f.next + k
  few : wF g ≤ wF f + 2 * k
end Go.Proofs.YtkhnialfkndiiaaGreat

set_option linter.unusedVariables false
set_option linter.unusedSimpArgs false
namespace Go.Proofs.YtkhnialfkndiiaaGreat
open Go Go.RowKit Copyhold
end Go.Proofs.YtkhnialfkndiiaaGreat

set_option linter.unusedVariables false
set_option linter.unusedSimpArgs false
namespace Go.Proofs.YtkhnialfkndiiaaGreat
open Go Go.RowKit Copyhold
end Go.Proofs.YtkhnialfkndiiaaGreat

set_option linter.unusedVariables false
set_option linter.unusedSimpArgs false
namespace Go.Proofs.YtkhnialfkndiiaaGreat
open Go Go.RowKit Copyhold
def pN (l : List Int) (n : Int) : Nat := (l.takeWhile fun x => decide (x < n)).length
theorem pN_le (l : List Int) (n : Int) : pN l n ≤ l.length := (List.takeWhile_sublist _).length_le
theorem pN_iff {n : Int} : ∀ {l : List Int} {k : Nat} {x : Int}, k ≤ pN l n → l[k]? = some x → (x < n ↔ k < pN l n)
  | [], k, x, _, hx => (by simp at hx)
  | a :: r, k, x, hk, hx => by
    by_cases ha : a < n
    · have e : pN (a :: r) n = pN r n + 1 := by unfold pN; rw [List.takeWhile_cons, if_pos (by simpa using ha)]; rfl
      rw [e] at hk ⊢
      cases k with
      | zero =>
        simp at hx
        subst hx
        exact ⟨fun _ => by omega, fun _ => ha⟩
      | succ k =>
        have := pN_iff (n := n) (l := r) (k := k) (x := x) (by omega) (by simpa using hx)
        rw [this]
        omega
    · have e : pN (a :: r) n = 0 := by unfold pN; rw [List.takeWhile_cons, if_neg (by simpa using ha)]; rfl
      rw [e] at hk ⊢
      obtain rfl : k = 0 := by omega
      simp at hx
      subst hx
      exact ⟨fun h => absurd h ha, fun h => by omega⟩
def wiK (l : List Int) (n : Int) (k j : Nat) : List Int := l.take k ++ n :: ((l.drop k).take (j - k)).filter fun x => x != n
theorem wiK_le (l : List Int) (n : Int) (k j : Nat) (hk : k ≤ l.length) : (wiK l n k j).length ≤ l.length + 1 := by
  unfold wiK
  have := List.length_filter_le (fun x => x != n) ((l.drop k).take (j - k))
  simp only [List.length_append, List.length_cons, List.length_take, List.length_drop] at this ⊢
  omega
def withI (l : List Int) (n : Int) : List Int := wiK l n (pN l n) l.length
theorem with_len (l : List Int) (n : Int) : (withI l n).length ≤ l.length + 1 := wiK_le l n _ _ (pN_le l n)
end Go.Proofs.YtkhnialfkndiiaaGreat

set_option linter.unusedVariables false
set_option linter.unusedSimpArgs false
namespace Go.Proofs.YtkhnialfkndiiaaGreat
open Go Go.RowKit Copyhold
end Go.Proofs.YtkhnialfkndiiaaGreat

set_option linter.unusedVariables false
set_option linter.unusedSimpArgs false
namespace Go.Proofs.YtkhnialfkndiiaaGreat
open Go Go.RowKit Copyhold
theorem rule_rwE {P : Program} {id : Nat} {V : Value} {e k : Nat} {xs xs' : List (List AV)} (he : xs = xs') : ∀ (c : Cx) (Q : Exit → FS → Prop) (code : Code) (s : LS), rowR id s = some (V, e, k, xs) → (∀ a : Unit, AWp c P code Q (s.setB id (.row V e k xs')).fs) → AWp c P code Q s.fs := by
  subst he
  intro c Q code s h kk
  unfold rowR at h
  split at h
  · rename_i V' e' k' xs' hb
    simp only [Option.some.injEq, Prod.mk.injEq] at h
    obtain ⟨rfl, rfl, rfl, rfl⟩ := h
    have := kk ()
    rw [← LS.fs_setB] at this
    have e : s.fs.setB id (some (.row V' e' k' xs')) = s.fs := by
      show FS.mk _ _ = FS.mk _ _
      congr 1
      funext i
      show (if i = id then some (Bx.row V' e' k' xs') else s.fs.bx i) = s.fs.bx i
      split
      · rename_i hi; subst hi; exact hb.symm
      · rfl
    rw [e] at this
    exact this
  · cases h
def swapL (L : List Int) (j : Nat) (x y : Int) : List Int := (L.set j y).set (j - 1) x
def downF : List Int → Nat → List Int
  | L, 0 => L
  | L, j + 1 =>
    match L[j + 1]?, L[j]? with
    | some x, some y => if x < y then downF (swapL L (j + 1) x y) j else L
    | _, _ => L
def insK (L : List Int) : Nat → List Int
  | 0 => L
  | 1 => L
  | i + 2 => downF (insK L (i + 1)) (i + 1)
def sortF (L : List Int) : List Int := insK L L.length
theorem swap_len {L : List Int} {j : Nat} {x y : Int} : (swapL L j x y).length = L.length := by simp [swapL]
theorem down_len : ∀ (j : Nat) (L : List Int), (downF L j).length = L.length
  | 0, L => rfl
  | j + 1, L => by
    unfold downF
    split
    · split
      · rw [down_len j, swap_len]
      · rfl
    · rfl
theorem ins_len (L : List Int) : ∀ i, (insK L i).length = L.length
  | 0 => rfl
  | 1 => rfl
  | i + 2 => by
    show (downF (insK L (i + 1)) (i + 1)).length = _
    rw [down_len, ins_len L (i + 1)]
theorem down_go {L : List Int} {j : Nat} {x y : Int} (h : 0 < j) (hx : L[j]? = some x) (hy : L[j - 1]? = some y) (hlt : x < y) : downF L j = downF (swapL L j x y) (j - 1) := by
  cases j with
  | zero => omega
  | succ j =>
    simp only [Nat.add_sub_cancel] at hy ⊢
    rw [downF, hx, hy]
    simp only [hlt, if_true]
theorem down_stop {L : List Int} {j : Nat} {x y : Int} (hx : L[j]? = some x) (hy : L[j - 1]? = some y) (hlt : ¬ x < y) : downF L j = L := by
  cases j with
  | zero => rfl
  | succ j =>
    simp only [Nat.add_sub_cancel] at hy
    rw [downF, hx, hy]
    simp only [hlt, if_false]
theorem ins_step {L : List Int} {i : Nat} (h : 1 ≤ i) : insK L (i + 1) = downF (insK L i) i := by
  cases i with
  | zero => omega
  | succ i => rfl
end Go.Proofs.YtkhnialfkndiiaaGreat
