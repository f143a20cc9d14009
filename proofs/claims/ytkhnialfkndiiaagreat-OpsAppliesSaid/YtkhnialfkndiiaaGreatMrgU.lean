/- Bytes that a call owns, whatever stands behind their end: made of a text, grown by one, stored into. Over this program's tables of bytes alone. copyholdref09.Read: it answers as the document says; old memory is as it was. Texts written over, byte by byte (as in DataSplit; without the law). No conditions beyond each law's own. copyholdref09.Cut, copyholdref09.Write: they answer as the document says; old memory is as it was. copyholdref09.Write: it answers as the document says; old memory is as it was. Texts and names as data: data.Read, Write, Cut; name.Names; node.Size. ref09.Read, Write, Cut; ref07.Size over data. -/
import Derived.Test.YtkhnialfkndiiaaGreatMrgT
import Derived.Test.YtkhnialfkndiiaaGreatMrgA
import Derived.ArgAppend
import Derived.Test.YtkhnialfkndiiaaGreatMrgS
set_option linter.unusedVariables false
set_option maxRecDepth 100000
namespace Go.Proofs.YtkhnialfkndiiaaGreat
open Go.RowKit Copyhold
theorem byteElem : Elem Tryz.prog 144 5 (.int .u8 0) 1 1 := ⟨by kernel_rfl, by kernel_rfl, rfl, by decide⟩
def byteV (b : UInt8) : Value := .int .u8 (b.toNat : Int)
def Brow (w : World) (base : Nat) (v : Value) (l : List UInt8) : Prop :=
  (v = .slice none 0 0 ∧ l = []) ∨ ∃ g cap, v = .slice (some ⟨g, 0, none⟩) l.length cap ∧ base ≤ g ∧ g < w.heap.size ∧ l.length ≤ cap ∧ cap ≤ maxLen ∧
    (∀ j, j < cap → (w.cell? ⟨g, j, none⟩).isSome = true) ∧ (∀ j, j < cap → w.frozen? ⟨g, j, none⟩ = false) ∧ ∀ j x, l[j]? = some x → w.cell? ⟨g, j, none⟩ = some (byteV x)
theorem Brow.shape {w : World} {base : Nat} {v : Value} {l : List UInt8} (h : Brow w base v l) : ∃ A c, v = .slice A l.length c := by
  rcases h with ⟨rfl, rfl⟩ | ⟨g, cap, rfl, _⟩
  · exact ⟨none, 0, rfl⟩
  · exact ⟨_, cap, rfl⟩
theorem Brow.alloc {w : World} {base : Nat} {v : Value} {l : List UInt8} (h : Brow w base v l) (o : Obj) : Brow (w.alloc o) base v l := by
  rcases h with h | ⟨g, cap, rfl, hb, hg, hl, hc, h1, h2, h3⟩
  · exact .inl h
  · refine .inr ⟨g, cap, rfl, hb, by simp; omega, hl, hc, fun j hj => ?_, fun j hj => ?_, fun j x hx => ?_⟩
    · rw [World.cell?_alloc_lt _ _ _ hg]; exact h1 j hj
    · rw [World.frozen?_of_block (Below.heap_alloc w o g hg)]; exact h2 j hj
    · rw [World.cell?_alloc_lt _ _ _ hg]; exact h3 j x hx
theorem Brow.back {w : World} {base : Nat} {v : Value} {l : List UInt8} (h : Brow w base v l) : (convert 144 9 v).run Tryz.prog w = .ok (.string ⟨l.toArray⟩) w := by
  rcases h with ⟨rfl, rfl⟩ | ⟨g, cap, rfl, hb, hg, hl, hc, h1, h2, h3⟩
  · exact run_convert_bytes_nil w 144 5 rfl rfl 0 0 9 rfl
  · exact run_convert_bytes_back w _ _ 5 _ _ l rfl rfl rfl fun j hj => by
      rw [add_plain', Nat.zero_add]
      exact h3 j _ (List.getElem?_eq_getElem hj)
theorem Brow.store {w : World} {base g cap : Nat} {l : List UInt8} (h : Brow w base (.slice (some ⟨g, 0, none⟩) l.length cap) l) (k : Nat) (x : UInt8) (hk : k < l.length) :
    base ≤ g ∧ (∃ u, w.cell? ⟨g, k, none⟩ = some u) ∧ w.frozen? ⟨g, k, none⟩ = false ∧ Brow (w.setCell ⟨g, k, none⟩ (byteV x)) base (.slice (some ⟨g, 0, none⟩) l.length cap) (l.set k x) := by
  rcases h with ⟨h, rfl⟩ | ⟨g', cap', he, hb, hg, hl, hc, h1, h2, h3⟩
  · simp at hk
  · simp only [Value.slice.injEq, Option.some.injEq, Addr.mk.injEq, and_true, true_and] at he
    obtain ⟨rfl, rfl⟩ := he
    have hc0 := h3 k l[k] (List.getElem?_eq_getElem hk)
    refine ⟨hb, ⟨_, hc0⟩, h2 k (by omega), .inr ⟨g, cap, by rw [List.length_set], hb, by simpa using hg, by rw [List.length_set]; exact hl, hc, fun j hj => ?_, fun j hj => ?_, fun j y hy => ?_⟩⟩
    · by_cases hjk : k = j
      · subst hjk; rw [World.cell?_setCell_same _ _ _ hc0]; rfl
      · rw [World.cell?_setCell_other _ _ _ _ (by intro e; simp at e <;> exact hjk e)]; exact h1 j hj
    · have := h2 j hj
      simpa [go_sem] using this
    · by_cases hjk : k = j
      · subst hjk
        rw [World.cell?_setCell_same _ _ _ hc0]
        rw [List.getElem?_set_self hk] at hy
        injection hy with hy
        subst hy
        rfl
      · rw [World.cell?_setCell_other _ _ _ _ (by intro e; simp at e <;> exact hjk e)]
        rw [List.getElem?_set_ne hjk] at hy
        exact h3 j y hy
theorem Brow.append {w : World} {base : Nat} {v : Value} {l : List UInt8} (h : Brow w base v l) (x : UInt8) (hl : l.length ≤ 1048576) (hbase : base ≤ w.heap.size) :
    ∃ v' w', (Builtin.append_ #[144, 144] 144 #[v, .slice (some ⟨w.heap.size, 0, none⟩) 1 1]).run Tryz.prog (w.alloc (.cells #[byteV x] 5)) = .ok v' w' ∧ Brow w' base v' (l ++ [x]) ∧ Below base w w' := by
  obtain ⟨ht, hinf, hzs, hsz⟩ := byteElem
  obtain ⟨i, hi, hz, hsize, hby⟩ := info_of hinf
  have hnews := cell_one_new w (byteV x) 5
  have hbW : Below base w (w.alloc (.cells #[byteV x] 5)) := (Below.refl _ _).alloc hbase _
  have h1c : ∀ u ∈ [byteV x], u.oneCell' = true := fun u hu => by simp at hu; subst hu; rfl
  have hnew : ∀ (W : World) (old : Nat), old < l.length + 1 → W.heap.size = w.heap.size + 1 → Below base w W → Brow (W.drew.alloc (.cells ((l.map byteV).toArray ++ #[byteV x] ++ Builtin.zeroCells (Value.int .u8 0).cells (grownCap W (l.length + 1) old 5 - (l.length + 1))) 5)) base
      (.slice (some ⟨W.heap.size, 0, none⟩) (l.length + 1) (grownCap W (l.length + 1) old 5)) (l ++ [x]) ∧ Below base w (W.drew.alloc (.cells ((l.map byteV).toArray ++ #[byteV x] ++ Builtin.zeroCells (Value.int .u8 0).cells (grownCap W (l.length + 1) old 5 - (l.length + 1))) 5)) := by
    intro W old ho hs hB
    have hge := grownCap_ge W (l.length + 1) old 5
    have hcm := grownCap_le_maxLen W (l.length + 1) old 5 (by unfold maxLen; omega)
    have hcell := cell_new W.drew ((l.map byteV).toArray ++ #[byteV x] ++ Builtin.zeroCells (Value.int .u8 0).cells (grownCap W (l.length + 1) old 5 - (l.length + 1))) 5
    have hcsz : ((l.map byteV).toArray ++ #[byteV x] ++ Builtin.zeroCells (Value.int .u8 0).cells (grownCap W (l.length + 1) old 5 - (l.length + 1))).size = grownCap W (l.length + 1) old 5 := by
      simp [size_zeroCells]
      have : (Value.int .u8 0).cells.size = 1 := rfl
      rw [this]
      omega
    refine ⟨.inr ⟨W.heap.size, _, by rw [List.length_append]; rfl, by rw [hs]; omega, by simp, by rw [List.length_append]; simpa using hge, hcm, fun j hj => ?_, fun j hj => ?_, fun j y hy => ?_⟩, ?_⟩
    · have := hcell j
      rw [show W.drew.heap.size = W.heap.size from rfl] at this
      rw [this, Array.getElem?_eq_getElem (by rw [hcsz]; exact hj)]
      rfl
    · have : (W.drew.alloc (.cells ((l.map byteV).toArray ++ #[byteV x] ++ Builtin.zeroCells (Value.int .u8 0).cells (grownCap W (l.length + 1) old 5 - (l.length + 1))) 5)).heap[W.heap.size]? = _ := heap_alloc_new W.drew _
      simp only [World.frozen?, this]
      simp
    · have := hcell j
      rw [show W.drew.heap.size = W.heap.size from rfl] at this
      rw [this]
      have hj := (List.getElem?_eq_some_iff.1 hy).1
      rw [List.length_append] at hj
      simp at hj
      have e : ((l.map byteV).toArray ++ #[byteV x]) = ((l ++ [x]).map byteV).toArray := by simp
      rw [e, Array.getElem?_append_left (by simp; omega), List.getElem?_toArray, List.getElem?_map, hy]
      rfl
    · exact (hB.drew).alloc (by show base ≤ W.heap.size; omega) _
  rcases h with ⟨rfl, rfl⟩ | ⟨g, cap, rfl, hb, hg, hlc, hc, h1, h2, h3⟩
  · have hr := run_append_nil (P := Tryz.prog) (w.alloc (.cells #[byteV x] 5)) 144 144 5 i (.int .u8 0) ht hi hz ⟨w.heap.size, 0, none⟩ 1 1 [byteV x] (by rw [hsize]; rfl) hnews (by omega) (by omega) (by rw [hby]; omega)
    have hn := hnew (w.alloc (.cells #[byteV x] 5)) 0 (by omega) (by simp) hbW
    simp only [List.map_nil, List.length_nil, Nat.zero_add] at hn
    exact ⟨_, _, hr, by simpa using hn.1, by simpa using hn.2⟩
  · by_cases hroom : l.length + 1 ≤ cap
    · have hA := (show Brow w base (.slice (some ⟨g, 0, none⟩) l.length cap) l from .inr ⟨g, cap, rfl, hb, hg, hlc, hc, h1, h2, h3⟩).alloc (.cells #[byteV x] 5)
      rcases hA with ⟨he, _⟩ | ⟨g', cap', he, hb', hg', hlc', hc', k1, k2, k3⟩
      · simp at he
      · simp only [Value.slice.injEq, Option.some.injEq, Addr.mk.injEq, and_true, true_and] at he
        obtain ⟨rfl, rfl⟩ := he
        have hr := run_append_room_cells (P := Tryz.prog) (w.alloc (.cells #[byteV x] 5)) 144 144 5 i ht hi g 0 l.length cap ⟨w.heap.size, 0, none⟩ 1 1 [byteV x] (by rw [hsize]; rfl) hnews h1c hroom
          (fun j hj => by simp at hj; subst hj; rw [hsize]; simpa using k1 l.length (by omega)) (fun j hj => by simp at hj; subst hj; rw [hsize]; simpa using k2 l.length (by omega))
        rw [hsize, Nat.mul_one, Nat.zero_add] at hr
        have hset : (w.alloc (.cells #[byteV x] 5)).setCells g l.length [byteV x] = (w.alloc (.cells #[byteV x] 5)).setCell ⟨g, l.length, none⟩ (byteV x) := rfl
        rw [hset] at hr
        obtain ⟨u, hu⟩ := Option.isSome_iff_exists.1 (k1 l.length (by omega))
        refine ⟨_, _, hr, .inr ⟨g, cap, by rw [List.length_append]; rfl, hb, by simpa using hg', by rw [List.length_append]; exact hroom, hc, fun j hj => ?_, fun j hj => ?_, fun j y hy => ?_⟩, hbW.setCell hb _⟩
        · by_cases hjk : l.length = j
          · subst hjk; rw [World.cell?_setCell_same _ _ _ hu]; rfl
          · rw [World.cell?_setCell_other _ _ _ _ (by intro e; simp at e <;> exact hjk e)]; exact k1 j hj
        · have := k2 j hj
          simpa [go_sem] using this
        · by_cases hjk : l.length = j
          · subst hjk
            rw [World.cell?_setCell_same _ _ _ hu]
            simp at hy
            rw [hy]
          · rw [World.cell?_setCell_other _ _ _ _ (by intro e; simp at e <;> exact hjk e)]
            have hj := (List.getElem?_eq_some_iff.1 hy).1
            rw [List.length_append] at hj
            simp at hj
            rw [List.getElem?_append_left (by omega)] at hy
            exact k3 j y hy
    · have hr := run_append_grow (P := Tryz.prog) (w.alloc (.cells #[byteV x] 5)) 144 144 5 i (.int .u8 0) ht hi hz ⟨g, 0, none⟩ l.length cap (l.map byteV) (by rw [hsize]; simp)
        (fun j u hu => by
          rw [add_plain', Nat.zero_add, World.cell?_alloc_lt _ _ _ hg]
          rw [List.getElem?_map] at hu
          cases hlj : l[j]? with
          | none => rw [hlj] at hu; cases hu
          | some y => rw [hlj] at hu; injection hu with hu; rw [← hu]; exact h3 j y hlj)
        ⟨w.heap.size, 0, none⟩ 1 1 [byteV x] (by rw [hsize]; rfl) hnews (by omega) (by omega) (growslice_fits (by omega) (by rw [hby]; omega))
      have hn := hnew (w.alloc (.cells #[byteV x] 5)) cap (by omega) (by simp) hbW
      exact ⟨_, _, hr, hn.1, hn.2⟩
end Go.Proofs.YtkhnialfkndiiaaGreat

set_option linter.unusedVariables false
set_option maxRecDepth 100000
namespace Go.Proofs.YtkhnialfkndiiaaGreat
open Go.RowKit Copyhold
attribute [local go_sem] piece
end Go.Proofs.YtkhnialfkndiiaaGreat

set_option linter.unusedVariables false
set_option linter.unusedSimpArgs false
set_option maxRecDepth 100000
namespace Go.Proofs.YtkhnialfkndiiaaGreat.dataSplit
open Go.RowKit Copyhold
end Go.Proofs.YtkhnialfkndiiaaGreat.dataSplit

set_option linter.unusedVariables false
set_option maxRecDepth 100000
namespace Go.Proofs.YtkhnialfkndiiaaGreat
open Go.RowKit Copyhold
attribute [local go_sem] piece
end Go.Proofs.YtkhnialfkndiiaaGreat

set_option linter.unusedVariables false
set_option maxRecDepth 100000
namespace Go.Proofs.YtkhnialfkndiiaaGreat
open Go.RowKit Copyhold
attribute [local go_sem] piece
end Go.Proofs.YtkhnialfkndiiaaGreat

set_option linter.unusedVariables false
set_option linter.unusedSimpArgs false
namespace Go.Proofs.YtkhnialfkndiiaaGreat
open Go Go.RowKit Copyhold
theorem ra3 {D : Nat → Prop} {w : World} {x y z : AV} {vs : Array Value} (h : RaAll D w [x, y, z] vs) : ∃ u v t, vs = #[u, v, t] ∧ Ra D w x u ∧ Ra D w y v ∧ Ra D w z t := by
  obtain ⟨h1, h2⟩ := h
  match vs, h1 with
  | ⟨[u, v, t]⟩, _ => exact ⟨u, v, t, rfl, h2 0 x u rfl rfl, h2 1 y v rfl rfl, h2 2 z t rfl rfl⟩
theorem dread_spec (s : Txt) (a b : Int) (hs : s.length ≤ 1000000) (ha : I64 a) (hb : I64 b) : FSpec Tryz.prog 110 [aS s, aI a, aI b] (.tup [aS (readD s a b).1, aI (readD s a b).2]) := fspec_plain (tup2_ra _ _) fun D w vs h => by
  obtain ⟨u, v, t, rfl, hu, hv, ht⟩ := ra3 h
  cases hu; cases hv; cases ht
  exact (data_Read s a b w (by omega) ha.1 ha.2 hb.1 hb.2).mono fun e w' ⟨g1, g2⟩ => ⟨g1, g2 ▸ Below.refl _ _⟩
theorem dwrite_spec (s : Txt) (a : Int) (t : Txt) (hs : s.length ≤ 1000000) (ha : I64 a) (ht : t.length ≤ 1000000) : FSpec Tryz.prog 111 [aS s, aI a, aS t] (.tup [aS (writeD s a t).1, aI (writeD s a t).2]) := fspec_plain (tup2_ra _ _) fun D w vs h => by
  obtain ⟨u, v, x, rfl, hu, hv, hx⟩ := ra3 h
  cases hu; cases hv; cases hx
  exact data_Write s a t w (by omega) (by omega) ha.1 ha.2
theorem dcut_spec (s : Txt) (n : Int) (hs : s.length ≤ 1000000) (hn : I64 n) : FSpec Tryz.prog 112 [aS s, aI n] (.tup [aS (cutD s n).1, aI (cutD s n).2]) := fspec_plain (tup2_ra _ _) fun D w vs h => by
  obtain ⟨u, v, rfl, hu, hv⟩ := RaAll.two h
  cases hu; cases hv
  exact data_Cut s n w (by omega) hn.1 hn.2
theorem dnames_spec (l : List Ent) (hl : l.length ≤ 1000000) : FSpec Tryz.prog 89 [.sl 2 false (l.map entA)] (.sl 1 false ((l.map Ent.name).map txA)) := by
  intro D w vs hD hv
  obtain ⟨u, rfl, hu⟩ := RaAll.one hv
  obtain ⟨A, c, rfl, he⟩ := ents_of_ra hu
  refine (callsIn_wide.1 (Names_in 3 (Nat.le_refl _) A c (lI l) (by rw [lI_len]; exact hl) w he)).mono ?_
  rintro e w' ⟨v, rfl, hown, hb⟩
  have hrow := Row.of_owns hown
  have e1 : (lI l).map (fun x => strV x.1) = (l.map Ent.name).map strV := by simp [lI]
  rw [e1] at hrow
  refine ⟨v, fun b => D b ∨ (w.heap.size ≤ b ∧ b < w'.heap.size), rfl, hb, fun b h => .inl h, fun b h => ?_, texts_ra hrow (at_both (At.of_owns hown) hrow.lies fun b h1 h2 => .inr ⟨h1, h2⟩)⟩
  rcases h with h | ⟨h1, h2⟩
  · exact ⟨Nat.lt_of_lt_of_le (hD b h) hb.size, .inl h⟩
  · exact ⟨h2, .inr h1⟩
def sizeN (n : Nod) : Int := if n.kind = 2 then (n.l.length : Int) else (n.text.length : Int)
structure Cal where
  kind : Int
  ino : Int
  to : Int
  at_ : Int
  many : Int
  name : Txt
  name2 : Txt
  text : Txt
structure Rep where
  e : Int
  a : Int
  b : Int
  n : Int
  text : Txt
  names : List Txt
  deriving DecidableEq
def repA (r : Rep) : List AV := [aI r.e, aI r.a, aI r.b, aI r.n, aS r.text, .sl 1 false (r.names.map txA)]
def errR (e : Int) : Rep := ⟨e, 0, 0, 0, [], []⟩
structure OkCal (c : Cal) : Prop where
  kind : I64 c.kind
  ino : I64 c.ino
  to : I64 c.to
  at_ : I64 c.at_
  many : I64 c.many
  name : c.name.length ≤ 1000000
  name2 : c.name2.length ≤ 1000000
  text : c.text.length ≤ 1000000
set_option maxRecDepth 100000 in
set_option maxHeartbeats 4000000 in
theorem size_spec (n : Nod) : FSpec Tryz.prog 109 [.agg [aI n.ino, aI n.kind, aI n.links, aS n.text, .sl 2 false (n.l.map entA)]] (aI (sizeN n)) := by
  exact spec_vc (F := Tryz.f109) 400 (
 .new fun b1 => .r 1 <| .run 3 [b1 = b1] ⟨rfl, trivial⟩ <|
 .br 5 (n.kind == 2) (fun q1 => have p1 := beqT q1; .run 3 [b1 = b1] ⟨rfl, trivial⟩ <|
 .val 8 (show (aI ((n.l.map entA).length : Int) : AV) = aI (n.l.length : Int) from by rw [List.length_map]) <| .r 1 <| .fin (x := aI (n.l.length : Int)) (r := aI (sizeN n)) [] trivial (by exact Sub.of_eq (congrArg aI (by unfold sizeN; simp_all))))
 <| fun q1 => have p1 := beqF q1; .run 4 [b1 = b1] ⟨rfl, trivial⟩ <|
 .fin (x := aI ((n.text).length : Int)) (r := aI (sizeN n)) [] trivial (by exact Sub.of_eq (congrArg aI (by unfold sizeN; simp_all)))) Tryz.func109 rfl (by kernel_rfl) (by kernel_rfl)
end Go.Proofs.YtkhnialfkndiiaaGreat

set_option linter.unusedVariables false
set_option linter.unusedSimpArgs false
namespace Go.Proofs.YtkhnialfkndiiaaGreat
open Go Go.RowKit Copyhold
end Go.Proofs.YtkhnialfkndiiaaGreat
