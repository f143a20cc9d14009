/- A slice of pairs of ints among the arguments: what it reads as. Over any program. -/
import Derived.Deep.Slices
import Derived.Test.YtcckbiaigcideaaLaw
import Derived.Test.YtcckbiaigcideaaMem
namespace Copyhold
open Go Go.RowKit Go.ChangeShapes Go.WideShapes Go.ChangeAt Go.Deep

def pairV (p : Int × Int) : List Value := [.int .i64 p.1, .int .i64 p.2]

theorem flat2_get (ps : List (Int × Int)) : ∀ i : Nat, (ps.flatMap pairV)[2 * i]? = ps[i]?.map (fun p => Value.int .i64 p.1) ∧ (ps.flatMap pairV)[2 * i + 1]? = ps[i]?.map (fun p => Value.int .i64 p.2) := by
  induction ps with
  | nil => intro i; simp
  | cons p r ih =>
    intro i
    cases i with
    | zero => simp [pairV]
    | succ i =>
      have h := ih i
      rw [List.flatMap_cons, show 2 * (i + 1) = 2 * i + 1 + 1 from by omega]
      simp only [pairV, List.cons_append, List.nil_append, List.getElem?_cons_succ]
      exact h
theorem flat2_len (ps : List (Int × Int)) : (ps.flatMap pairV).length = ps.length * 2 := by
  induction ps with
  | nil => rfl
  | cons p r ih => rw [List.flatMap_cons, List.length_append, ih, List.length_cons]; simp [pairV]; omega

/-- pairs as data -/
def pairsD {H : Type} (d : DataW H) (ps : List (Int × Int)) : Prop := d = .nil ∧ ps = [] ∨ ∃ elems spare, d = .slice elems spare ∧ elems.length = ps.length

theorem pairs_sized {H : Type} {P : Program} {t e : TypeId} {d : DataW H} {ps : List (Int × Int)} (hu : P.underlying t = some (.slice e)) (hby : P.bytesOf e = 16) (he : pairsD d ps) (hw : ∀ n ∈ DataW.weights P t d, n ≤ 140737488351232) : ps.length ≤ 8796093022207 := by
  rcases he with ⟨rfl, rfl⟩ | ⟨elems, spare, rfl, hl⟩
  · simp
  · have := hw ((elems.length + spare.length) * P.bytesOf e) (by simp only [DataW.weights, hu, List.mem_cons, true_or])
    rw [hby] at this
    omega

theorem open_pairs_at {H : Type} {enc : TypeId × Value → H} {P : Program} {W : World} {t e e' : TypeId} {fuel : Nat} {cs : List Value} {x : DataW H × List MemPlace} (ht : P.underlying t = some (.slice e)) (he : P.underlying e = some (.array 2 e')) (he' : P.underlying e' = some (.int .i64)) (hc : P.cellsOf e = 2) (hc' : P.cellsOf e' = 1)
    (h : DataW.trod enc P W 0 (fun _ => true) true fuel t cs = some x) (hlt : ∀ p ∈ x.2, p.block < W.heap.size) :
    ∃ (v : Value) (ps : List (Int × Int)), cs = [v] ∧ Sl W 2 v ps.length (ps.flatMap pairV) ∧ (∀ p ∈ ps, (Lit.int .i64 p.1).wf = true ∧ (Lit.int .i64 p.2).wf = true) ∧ pairsD x.1 ps := by
  rcases open_slice ht h with ⟨rfl, rfl⟩ | ⟨a, len, cap, m, n, D, Pl, rfl, _, hl, hm, hmm, rfl, hi⟩
  · exact ⟨_, [], rfl, Sl.nil _ _, (fun p hp => by cases hp), .inl ⟨rfl, rfl⟩⟩
  · simp only [if_true] at hmm
    subst hmm
    have hel : ∀ i : Nat, ∃ q : Int × Int, i < m → W.cell? (a.add (i * 2)) = some (.int .i64 q.1) ∧ W.cell? (a.add (i * 2 + 1)) = some (.int .i64 q.2) ∧ (Lit.int .i64 q.1).wf = true ∧ (Lit.int .i64 q.2).wf = true := by
      intro i
      by_cases him : i < m
      · obtain ⟨cs', hcs, htr⟩ := hi i him
        rw [hc] at hcs
        obtain ⟨_, hcl, hat⟩ := World.cells?_some hcs
        obtain ⟨c0, c1, rfl⟩ := list2 hcl
        obtain ⟨xs, k, _, _, _, hlen, hfl⟩ := DataW.trod_array he htr
        obtain ⟨y0, y1, rfl⟩ := list2 hlen
        have g0 : DataW.trod enc P W 0 (fun _ => true) true k e' [c0] = some y0 := by have h := hfl 0 (by omega); simpa [hc'] using h
        have g1 : DataW.trod enc P W 0 (fun _ => true) true k e' [c1] = some y1 := by have h := hfl 1 (by omega); simpa [hc'] using h
        obtain ⟨p, ev0, _, wa⟩ := DataW.trod_int he' g0
        obtain ⟨q, ev1, _, wb⟩ := DataW.trod_int he' g1
        simp only [List.cons.injEq, and_true] at ev0 ev1
        subst ev0 ev1
        have h0 := hat 0 (by omega)
        have h1 := hat 1 (by omega)
        rw [Go.Deep.add_add] at h0 h1
        exact ⟨(p, q), fun _ => ⟨by simpa using h0, by simpa using h1, wa, wb⟩⟩
      · exact ⟨(0, 0), fun h => absurd h him⟩
    obtain ⟨f, hf⟩ := Classical.skolem.1 hel
    refine ⟨_, (List.range len).map f, rfl, ?_, fun p hp => ?_, .inr ⟨_, _, rfl, by simp⟩⟩
    · have hlen : ((List.range len).map f).length = len := by simp
      refine ⟨some a, m, by rw [hlen], by rw [hlen]; exact hl, flat2_len _, fun h0 => ?_⟩
      rw [hlen] at h0
      obtain ⟨b, off, spot⟩ := a
      have hf0 := (hf 0 (by omega)).1
      have hspot : spot = none := by simpa [Addr.add] using World.cell?_spot hf0
      subst hspot
      refine ⟨b, off, rfl, ?_, fun j y hy => ?_⟩
      · have := cell_lt (b := b) (o := off + 0 * 2) (by rw [← add_plain']; exact hf0)
        exact this
      · obtain ⟨i, hij⟩ : ∃ i, j = 2 * i ∨ j = 2 * i + 1 := ⟨j / 2, by omega⟩
        have hg := flat2_get ((List.range len).map f) i
        have hil : i < len := by
          have := (List.getElem?_eq_some_iff.1 hy).1
          rw [flat2_len, hlen] at this
          omega
        rw [List.getElem?_map, List.getElem?_range hil] at hg
        have hq := hf i (by omega)
        rcases hij with rfl | rfl
        · rw [hg.1] at hy
          simp only [Option.map_some, Option.some.injEq] at hy
          rw [← hy, ← add_plain', show 2 * i = i * 2 from by omega]
          exact hq.1
        · rw [hg.2] at hy
          simp only [Option.map_some, Option.some.injEq] at hy
          rw [← hy, ← add_plain', show 2 * i + 1 = i * 2 + 1 from by omega]
          exact hq.2.1
    · obtain ⟨i, hi', rfl⟩ := List.mem_map.1 hp
      have := hf i (by have := List.mem_range.1 hi'; omega)
      exact this.2.2
end Copyhold
